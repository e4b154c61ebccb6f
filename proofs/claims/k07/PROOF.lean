import PyProof.Rows.All
import Wide.All
import OpenK.AllK
import Wide.FinOn
import Lean
import PyProof.EqAt
import PyProof.EqKinds
import PyProof.TupleCall
import PyProof.NeKinds
import PyProof.Rows.SumAny
import PyProof.StrBlockL
import PyProof.StrBlockI
import PyProof.FitsReplace
import PyProof.Rows.SeqMore
import PyProof.Rows.TupAdd
import PyProof.Draws
import PyProof.ZipIter
import OpenK.ZGo
import PyProof.Rows.SetFrom
import PyProof.SetRoads
import PyProof.ListNew
import PyProof.Rows.SortStr
import PyProof.Rows.SortWalk
import PyProof.IsRules
import KE.KDictLaws
import PyProof.DictWalks
import PyProof.WalkInts
import PyProof.SeqRoads2
import PySem.Challenge.RW_slicewise_k07_blocks_refused
set_option Elab.async false
set_option linter.all false
set_option maxRecDepth 100000
set_option maxHeartbeats 8000000
abbrev gg (x:PySem.Str):Prop:=(x == ("__debug__":PySem.Str))=false
abbrev tZ (x:PySem.Str):Prop:=(x == ("__classdict__":PySem.Str))=false
abbrev cY:=@PySem.Heap.get?_push_of_some
abbrev b_:=@List.length_map
abbrev gh:=@List.getElem?_eq_some_iff
abbrev j_:=@List.getElem?_eq_getElem
abbrev dS:=@List.mem_cons
abbrev fD:=@List.not_mem_nil
abbrev jc:=@List.mem_cons_of_mem
abbrev gB:=@List.size_toArray
abbrev dq:=@PySem.Heap.lt_size
abbrev du:=@Nat.le_refl
abbrev k8:=@List.mem_append_right
abbrev jz:=@List.mem_cons_self
abbrev iC:=@Bool.and_eq_true
abbrev gC:=@PySem.boot_len
abbrev kc:=@PySem.W.mg_none_of
abbrev mz:=@List.mem_append_left
abbrev jA:=@List.mem_append
abbrev mY:=@List.mem_of_getElem?
abbrev k9:=@List.getElem?_map
abbrev gF:=@Nat.ne_of_lt
abbrev mf:=@List.length_append
abbrev mZ:=@List.filterMap_cons
abbrev m9:=@PySem.Heap.get?_push_size
abbrev mB:=@Int.emod_lt_of_pos
abbrev m_:=@Nat.lt_of_lt_of_le
abbrev jr:=@List.map_cons
abbrev k_:=@Int.emod_nonneg
abbrev nL:=@Bool.false_ne_true
abbrev t5:=@PySem.F.slot_list_append
abbrev t6:=@PySem.F.type_list_append
abbrev jJ:=@PySem.W.mg_of
abbrev vI:=@List.getElem?_append_left
abbrev t7:=@List.getElem?_set_ne
abbrev pX:=@List.map_append
abbrev kd:=@Nat.zero_le
abbrev x5:=@List.getElem?_set_self
abbrev mD:=@Nat.le_trans
abbrev qQ:=@List.nodup_cons
abbrev vJ:=@PySem.F.called_set
abbrev EE:=@List.getElem?_append_right
abbrev x6:=@List.mem_singleton
abbrev Bk:=@List.zipWith_cons_cons
abbrev Bl:=@List.zipWith_nil_left
abbrev Ef:=@Int.eq_ofNat_of_zero_le
abbrev Bm:=@List.forall_mem_cons
abbrev vO:=@PySem.Heap.size_push
abbrev x8:=@PySem.PassesOwn.never
abbrev y8:=@List.all_eq_true
abbrev vP:=@List.all_cons
abbrev A9:=@List.getElem_mem
abbrev EF:=@List.length_replicate
abbrev Hr:=@PySem.Heap.get?_update_other
abbrev IP:=@List.mem_or_eq_of_mem_set
abbrev Eg:=@Int.toNat_natCast
abbrev y9:=@Bool.true_and
abbrev IQ:=@List.getElem?_replicate
abbrev Hs:=@List.length_dropLast
abbrev y_:=@List.mem_map
abbrev EG:=@List.length_range
abbrev Ht:=@PySem.mem_of_lookup
abbrev Eh:=@List.append_nil
abbrev IS:=@PySem.Heap.get?_update_self
abbrev A_:=@Nat.ne_of_gt
abbrev EH:=@List.length_take
abbrev EI:=@List.lookup_cons
abbrev Ei:=@List.mem_range
abbrev Bn:=@List.all_nil
abbrev Ej:=@Nat.lt_irrefl
abbrev IT:=@PySem.Obj.data_mapFields
abbrev Hu:=@List.length_set
abbrev Hv:=@Bool.eq_iff_iff
abbrev Hw:=@PySem.W.kia_one
abbrev Mo:=@Array.length_toList
abbrev Hx:=@Bool.false_and
abbrev IU:=@Nat.lt_succ_self
abbrev IV:=@List.length_drop
abbrev IW:=@List.length_cons
abbrev MW:=@List.take_of_length_le
abbrev MX:=@Option.map_eq_some_iff
abbrev Qz:=@PyProof.Rows.callWith_type1
abbrev Mp:=@List.set_cons_succ
abbrev Ru:=@PyProof.Rows.F.plain_set_update_loop
abbrev MY:=@List.length_singleton
abbrev MZ:=@List.mem_iff_getElem?
abbrev M0:=@PySem.Obj.isFreed_of_fields
abbrev M5:=@PySem.F.slot_dict_get
abbrev M6:=@List.eq_nil_or_concat
abbrev Rv:=@List.concat_eq_append
abbrev QA:=@PySem.F.slot_tuple_iterator_next
abbrev M7:=@PySem.Heap.get?_none_of_le
abbrev M8:=@List.mem_of_mem_drop
abbrev IX:=@List.nodup_nil
abbrev Hy:=@List.map_nil
abbrev Mq:=@List.take_length
abbrev Mr:=@Option.bind_some
abbrev Rx:=@PyProof.Rows.slot_tuple_getitem
abbrev QB:=@List.getElem?_cons_zero
abbrev QC:=@PySem.F.plainAttrs_list
abbrev Ms:=@List.find?_cons
abbrev QD:=@PySem.Calls.callWith_builtin
abbrev M9:=@Nat.lt_succ_of_lt
abbrev M_:=@List.append_assoc
abbrev QE:=@Bool.beq_eq_decide_eq
abbrev IY:=@Int.zero_add
abbrev QF:=@PySem.F.excBase_ValueError
abbrev Mt:=@List.any_cons
abbrev Ry:=@Array.getElem?_eq_some_iff
abbrev Rz:=@List.exists_cons_of_ne_nil
abbrev IZ:=@Nat.le_succ
abbrev QG:=@List.filter_eq_self
abbrev M':=@List.mem_filter
abbrev RA:=@List.drop_eq_getElem_cons
abbrev RB:=@List.pairwise_iff_getElem
abbrev QH:=@PySem.W.callWith_K
abbrev RC:=@Option.isSome_iff_exists
abbrev RD:=@PySem.F.args_tuple_add_2
abbrev QI:=@List.set_cons_zero
abbrev QJ:=@PySem.Code.quiet_builtin
abbrev RE:=@PySem.F.entry_tuple_add
abbrev RF:=@List.length_eq_zero_iff
abbrev RG:=@PySem.F.args_dict_get_2
abbrev RH:=@PySem.F.plainAttrs_dict
abbrev RI:=@PySem.F.slot_tuple_add
abbrev RJ:=@PySem.F.entry_dict_get
abbrev RK:=@List.drop_eq_nil_of_le
namespace L2
open PySem PySem.Spec PyProof.Rows
abbrev Key:=Sum Int Str
def qR:Key→Value→Bool
 | .inl k,v=>Value.isInt k v
 | .inr x,v=>Value.isStrOf x v
def RL (w:World):Key→Int
 | .inl k=>hashInt k
 | .inr x=>hashStr w x
theorem bO:∀ {k:Key} {v:Value},qR k v=true→(∃ i t,k=Sum.inl i∧v=Value.int i t)∨(∃ x t,k=Sum.inr x∧v=Value.str x t)
 | .inl i,v,h=>by
   obtain ⟨t,e⟩:=Value.isInt_shape (k:=i) (v:=v) h
   exact .inl ⟨i,t,rfl,e⟩
 | .inr x,v,h=>by
   obtain ⟨t,e⟩:=Value.isStrOf_shape (x:=x) (v:=v) h
   exact .inr ⟨x,t,rfl,e⟩
theorem za (i:Int) (t:Tok):qR (.inl i) (.int i t)=true:=by simp [qR,Value.isInt]
theorem zb (x:Str) (t:Tok):qR (.inr x) (.str x t)=true:=by simp [qR,Value.isStrOf]
theorem I_ (a b:Int):decide ((Sum.inl a:Key)=Sum.inl b)=(a == b):=by
 by_cases e:a=b
 · subst e; simp
 · have h:¬ (Sum.inl a:Key)=Sum.inl b:=fun q=>e (Sum.inl.inj q)
   rw [decide_eq_false h]
   exact (beq_eq_false_iff_ne.mpr e).symm
theorem Ja (a b:Str):decide ((Sum.inr a:Key)=Sum.inr b)=decide (a=b):=by
 by_cases e:a=b
 · subst e; simp
 · have h:¬ (Sum.inr a:Key)=Sum.inr b:=fun q=>e (Sum.inr.inj q)
   rw [decide_eq_false h,decide_eq_false e]
theorem Jb (a:Int) (b:Str):decide ((Sum.inl a:Key)=Sum.inr b)=false:=decide_eq_false (fun q=>nomatch q)
theorem Jc (a:Str) (b:Int):decide ((Sum.inr a:Key)=Sum.inl b)=false:=decide_eq_false (fun q=>nomatch q)
def bB (prog:Program) (w:World):PySem.KeyKind prog w Key where
 is:=qR
 hash:=RL w
 inj:=fun v a b ha hb=>by
  rcases bO ha with ⟨i,t,rfl,rfl⟩ | ⟨x,t,rfl,rfl⟩
  · rcases bO hb with ⟨j,u,rfl,e⟩ | ⟨y,u,rfl,e⟩
    · injection e with e1 _; rw [e1]
    · exact nomatch e
  · rcases bO hb with ⟨j,u,rfl,e⟩ | ⟨y,u,rfl,e⟩
    · exact nomatch e
    · injection e with e1 _; rw [e1]
 byValue:=fun k v h=>by
  rcases bO h with ⟨i,t,rfl,rfl⟩ | ⟨x,t,rfl,rfl⟩ <;> rfl
 pyHash:=fun hv h=>by
  rcases bO hv with ⟨i,t,rfl,rfl⟩ | ⟨x,t,rfl,rfl⟩
  · exact wpAny_pyHash_int h
  · exact wpAny_pyHash_str h
 eqBool:=fun hu hv h=>by
  rcases bO hu with ⟨i,t,rfl,rfl⟩ | ⟨x,t,rfl,rfl⟩
  · rcases bO hv with ⟨j,u,rfl,rfl⟩ | ⟨y,u,rfl,rfl⟩
    · rw [I_] at h; exact wpAny_eqBool_int h
    · rw [Jb] at h; exact SeqAt.EqAt.int_str i t y u _ _ _ _ h
  · rcases bO hv with ⟨j,u,rfl,rfl⟩ | ⟨y,u,rfl,rfl⟩
    · rw [Jc] at h; exact SeqAt.EqAt.str_int x t j u _ _ _ _ h
    · rw [Ja] at h; exact wpAny_eqBool_str h
 «strs»:=fun k x t v h=>by
  rcases bO h with ⟨i,u,rfl,e⟩ | ⟨y,u,rfl,e⟩
  · exact nomatch e
  · injection e with e1 _
    subst e1
    cases v <;> rfl
theorem t8 (prog:Program) (w:World) (i:Int) (t:Tok):(bB prog w).is (.inl i) (.int i t)=true:=za i t
theorem t9 (prog:Program) (w:World) (x:Str) (t:Tok):(bB prog w).is (.inr x) (.str x t)=true:=zb x t
inductive V where
 | bh | bl (b:Bool) | int (i:Int) | str (x:Str) | U7 (b:Array UInt8) | U8 (b:UInt64) | ref (a:Addr) | ty (n:String)
 deriving DecidableEq
def RelV:V→Value→Prop
 | .bh,u=>u=Value.none
 | .bl b,u=>u=Value.bool b
 | .int i,u=>∃ t,u=Value.int i t
 | .str x,u=>∃ t,u=Value.str x t
 | .U7 b,u=>∃ t,u=Value.bytes b t
 | .U8 b,u=>∃ t,u=Value.float b t
 | .ref a,u=>u=Value.ref a
 | .ty n,u=>u=Value.type n
abbrev Vals:List V→List Value→Prop:=Paired RelV
theorem Vals.length {xs:List V} {us:List Value} (r:Vals xs us):xs.length=us.length:=Paired.length r
theorem Vals.get:∀ {xs:List V} {us:List Value} {i:Nat} {x:V},Vals xs us→xs[i]?=some x→∃ u,us[i]?=some u∧RelV x u
 | _,_,_,_,.nil,e=>by simp at e
 | _,_,0,_,.cons r _,e=>by simp at e; subst e; exact ⟨_,rfl,r⟩
 | _,_,i+1,x,.cons _ t,e=>by
   obtain ⟨u,h1,h2⟩:=Vals.get (i:=i) (x:=x) t (by simpa using e)
   exact ⟨u,by simpa using h1,h2⟩
theorem Vals.set {x:V} {u:Value} (r:RelV x u):∀ {xs:List V} {us:List Value} (i:Nat),Vals xs us→Vals (xs.set i x) (us.set i u)
 | _,_,_,.nil=>.nil
 | _,_,0,.cons _ t=>.cons r t
 | _,_,i+1,.cons q t=>.cons q (Vals.set r i t)
theorem Vals.append:∀ {xs ys:List V} {us ws:List Value},Vals xs us→Vals ys ws→Vals (xs ++ ys) (us ++ ws)
 | _,_,_,_,.nil,s=>s
 | _,_,_,_,.cons r t,s=>.cons r (Vals.append t s)
theorem Vals.take:∀ {xs:List V} {us:List Value} (n:Nat),Vals xs us→Vals (xs.take n) (us.take n)
 | _,_,0,_=>.nil
 | _,_,_+1,.nil=>.nil
 | _,_,n+1,.cons r t=>.cons r (Vals.take n t)
theorem Vals.drop:∀ {xs:List V} {us:List Value} (n:Nat),Vals xs us→Vals (xs.drop n) (us.drop n)
 | _,_,0,r=>r
 | _,_,_+1,.nil=>.nil
 | _,_,n+1,.cons _ t=>Vals.drop n t
def jK:Option V→Option Value→Prop
 | some v,some u=>RelV v u
 | none,none=>True
 | _,_=>False
def KV {κ:Type}:List (κ×V)→List (κ×Value)→Prop:=Paired fun (p:κ×V) (q:κ×Value)=>p.1=q.1∧RelV p.2 q.2
def kV:Key→V
 | .inl i=>.int i
 | .inr x=>.str x
inductive HO where
 | lst (xs:List V)
 | tup (xs:List V)
 | dK (aZ:List (Key×V)) | dT (aZ:List (List Key×V))
 | set (S:Int→Bool) (n:Nat)
 | ins (C dx:Addr) (fs:List (Str×V))
 | own (x:Addr)
 | xd (fs:List (Str×V))
 | met (f x:Addr)
 | QK (lo hi:Int)
 | tV (o:Obj) (u:HO)
 | Hz (ps:Array Value)
 | ext (φ:Heap→Prop)
abbrev Hp:=Addr→Option HO
def upd (H:Hp) (a:Addr) (o:HO):Hp:=fun b=>if b=a then some o else H b
theorem aU {H:Hp} {a:Addr} {o:HO}:upd H a o a=some o:=by unfold upd; rw [if_pos rfl]
theorem aH {H:Hp} {a b:Addr} {o:HO} (h:b≠a):upd H a o b=H b:=by unfold upd; rw [if_neg h]
theorem EJ {H:Hp} {a:Addr} {o u:HO}:upd (upd H a o) a u=upd H a u:=by
 funext b; unfold upd; split <;> rfl
theorem HA {H:Hp} {a b:Addr} {o u:HO} (h:H a=some o) (h':H b=some u) (d:o≠u):a≠b:=by
 intro e; subst e; rw [h] at h'; exact d (Option.some.inj h')
theorem aV {H:Hp} {a b:Addr} {o:HO} (h:H a=some o) (h':H b=none):a≠b:=by
 intro e; subst e; rw [h] at h'; cases h'
section
variable (P:Program) (w:World)
def bM (H:Hp) (h:Heap) (a:Addr):HO→Prop
 | .lst xs=>xs.length≤sizeLine∧∃ (aK:List Value) (n:Nat),Vals xs aK∧h.get? a=some { cls:=.type "list",data:=.seq aK.toArray n }
 | .tup xs=>xs.length≤sizeLine∧∃ aK:List Value,Vals xs aK∧IsTup h a aK.toArray
 | .dK aZ=>aZ.length≤sizeLine∧(a == sysModules)=false∧∃ vs,KV aZ vs∧h.DictOf (bB P w) a vs
 | .dT aZ=>aZ.length≤sizeLine∧(a == sysModules)=false∧∃ xs:List (List Key×Addr×Value),
    Paired (fun (p:List Key×V) (q:List Key×Addr×Value)=>p.1=q.1∧H q.2.1=some (.tup (p.1.map kV))∧RelV p.2 q.2.2) aZ xs ∧
    ∃ o es ep,h.get? a=some o∧o.ExactDict∧o.data = .dict es ep∧es.toList=xs.map (entryOfKey (tupleKind (bB P w)))∧(xs.map (·.1)).Nodup
 | .set S n=>h.SetOf (intKind P w) a S n
 | .ins C dx fs=>H dx=some (.own a)∧fs.length≤1000∧dx≠a∧h.get? a=some (PySem.W.instObj C dx) ∧
    ∃ mA,h.Ns1 dx mA∧(∀ f,jK (fs.lookup f) (mA f))∧PySem.Within mA (fs.map (·.1))
 | .own _=>∃ o,h.get? a=some o
 | .xd fs=>∃ mA,h.Ns1 a mA∧∀ f,jK (fs.lookup f) (mA f)
 | .QK lo hi=>∃ t u v,h.get? a=some { cls:=.type "range",data:=.fields #[.int lo t,.int hi u,.int 1 v] }
 | .tV o u=>h.get? a=some o∧bM H h a u
 | .Hz ps=>h.get? a=some { cls:=.none,data:=.fields ps }
 | .met f x=>h.get? a=some (PySem.W.methodObj (.ref f) (.ref x))
 | .ext φ=>φ h∧(∃ o,h.get? a=some o)∧∀ h1 h2:Heap,φ h1→(∀ o,h1.get? a=some o→h2.get? a=some o)→φ h2
def jt (H:Hp) (h:Heap):Prop:=∀ a o,H a=some o→bM P w H h a o
end
section
variable {P:Program} {w:World} {H H':Hp} {h h':Heap} {a:Addr} {o:HO}
theorem bM.lt (x:bM P w H h a o):a < h.objs.size:=by
 cases o with
 | lst xs=>obtain ⟨_,_,_,_,e⟩:=x; exact dq e
 | tup xs=>obtain ⟨_,_,_,p⟩:=x; exact p.lt
 | dK aZ=>obtain ⟨_,_,_,_,o,_,_,e,_⟩:=x; exact dq e
 | dT aZ=>obtain ⟨_,_,_,_,o,_,_,e,_⟩:=x; exact dq e
 | set S n=>obtain ⟨o,_,_,_,e,_⟩:=x; exact dq e
 | ins C dx fs=>obtain ⟨_,_,_,e,_⟩:=x; exact dq e
 | own y=>obtain ⟨_,e⟩:=x; exact dq e
 | xd fs=>obtain ⟨_,⟨_,_,_,e,_⟩,_⟩:=x; exact dq e
 | QK lo hi=>obtain ⟨_,_,_,e⟩:=x; exact dq e
 | tV ob u=>obtain ⟨e,_⟩:=x; exact dq e
 | Hz ps=>exact dq (show h.get? a=some _ from x)
 | met f y=>exact dq (show h.get? a=some _ from x)
 | ext φ=>obtain ⟨_,⟨_,e⟩,_⟩:=x; exact dq e
theorem Paired.mE {α β:Type} {F G:α→β→Prop}:∀ {l₁:List α} {l₂:List β},Paired F l₁ l₂→(∀ a b,F a b→G a b)→Paired G l₁ l₂
 | _,_,.nil,_=>.nil
 | _,_,.cons r t,f=>.cons (f _ _ r) (Paired.mE t f)
theorem bM.mF (x:bM P w H h a o) (k:∀ b u,(b=a∨H b=some (.own a))→h.get? b=some u→h'.get? b=some u)
  (ho:∀ b,H b=some (.own a)→H' b=some (.own a)) (ht:∀ b xs,H b=some (.tup xs)→H' b=some (.tup xs)):bM P w H' h' a o:=by
 induction o with
 | lst xs=>obtain ⟨z,aK,n,r,e⟩:=x; exact ⟨z,aK,n,r,k _ _ (.inl rfl) e⟩
 | tup xs=>obtain ⟨z,aK,r,ob,e,c⟩:=x; exact ⟨z,aK,r,ob,k _ _ (.inl rfl) e,c⟩
 | dK aZ=>obtain ⟨z,y,vs,r,ob,es,ep,e,c⟩:=x; exact ⟨z,y,vs,r,ob,es,ep,k _ _ (.inl rfl) e,c⟩
 | dT aZ =>
   obtain ⟨z,y,xs,r,ob,es,ep,e,c⟩:=x
   exact ⟨z,y,xs,Paired.mE r fun p q z=>⟨z.1,ht _ _ z.2.1,z.2.2⟩,ob,es,ep,k _ _ (.inl rfl) e,c⟩
 | set S n=>obtain ⟨ob,es,ep,t,e,c⟩:=x; exact ⟨ob,es,ep,t,k _ _ (.inl rfl) e,c⟩
 | ins C dx fs =>
   obtain ⟨d,z,ne,e,mA,⟨od,es,ep,e2,c⟩,r⟩:=x
   exact ⟨ho _ d,z,ne,k _ _ (.inl rfl) e,mA,⟨od,es,ep,k _ _ (.inr d) e2,c⟩,r⟩
 | own y=>obtain ⟨ob,e⟩:=x; exact ⟨ob,k _ _ (.inl rfl) e⟩
 | xd fs=>obtain ⟨mA,⟨od,es,ep,e,c⟩,r⟩:=x; exact ⟨mA,⟨od,es,ep,k _ _ (.inl rfl) e,c⟩,r⟩
 | QK lo hi=>obtain ⟨t,u,v,e⟩:=x; exact ⟨t,u,v,k _ _ (.inl rfl) e⟩
 | tV ob u ih=>obtain ⟨e,q⟩:=x; exact ⟨k _ _ (.inl rfl) e,ih q⟩
 | Hz ps =>
   have e:h.get? a=some { cls:=.none,data:=.fields ps }:=x
   show h'.get? a=some { cls:=.none,data:=.fields ps }
   exact k a _ (.inl rfl) e
 | met f y =>
   have e:h.get? a=some (PySem.W.methodObj (.ref f) (.ref y)):=x
   show h'.get? a=some (PySem.W.methodObj (.ref f) (.ref y))
   exact k a _ (.inl rfl) e
 | ext φ=>obtain ⟨p,⟨o,e⟩,st⟩:=x; exact ⟨st _ _ p fun o q=>k _ _ (.inl rfl) q,⟨o,k _ _ (.inl rfl) e⟩,st⟩
theorem jt.lt (x:jt P w H h) (e:H a=some o):a < h.objs.size:=(x a o e).lt
theorem jt.fresh (x:jt P w H h) (e:h.objs.size≤a):H a=none:=by
 cases q:H a with
 | none=>rfl
 | some u=>exact absurd (m_ (x.lt q) e) (Ej _)
theorem jt.kept (x:jt P w H h) (k:∀ b u,h.get? b=some u→h'.get? b=some u):jt P w H h':=fun a o e =>
 (x a o e).mF (fun b u _ q=>k b u q) (fun _ q=>q) fun _ _ q=>q
theorem jt.laid (x:jt P w H h) (k:∀ b u,h.get? b=some u→h'.get? b=some u) (hp:h.objs.size≤a) (new:bM P w (upd H a o) h' a o):jt P w (upd H a o) h':=fun b u e=>by
 have hn:=x.fresh hp
 by_cases hb:b=a
 · subst hb; rw [aU] at e; cases e; exact new
 · rw [aH hb] at e
   exact (x b u e).mF (fun c v _ q=>k c v q) (fun c q=>by rw [aH (aV q hn)]; exact q) fun c xs q=>by rw [aH (aV q hn)]; exact q
end
def Rd (H:Hp) (a:Addr) (u:HO):Prop:=H a=some u∨∃ o,H a=some (.tV o u)
theorem Rd.of {H:Hp} {a:Addr} {u:HO} (h:H a=some u):Rd H a u:=.inl h
theorem Rd.ok {P:Program} {w:World} {H:Hp} {h:Heap} {a:Addr} {u:HO} (r:Rd H a u) (x:jt P w H h):bM P w H h a u:=by
 rcases r with r | ⟨o,r⟩
 · exact x a u r
 · obtain ⟨_,q⟩:=x a _ r
   exact q
def Na:Option HO→Prop
 | some (.lst _)=>True
 | some (.dK _)=>True
 | some (.dT _)=>True
 | some (.set _ _)=>True
 | some (.ins _ _ _)=>True
 | some (.ext _)=>True
 | _=>False
section
variable {P:Program} {w:World} {H:Hp} {h h':Heap} {x e:Addr} {o':HO}
theorem jt.write (ok:jt P w H h) (mu:Na (H x)) (he:e=x∨H e=some (.own x)) (k:∀ b u,b≠e→h.get? b=some u→h'.get? b=some u) (HB:∃ u,h'.get? e=some u)
  (new:bM P w (upd H x o') h' x o'):jt P w (upd H x o') h':=fun b u q=>by
 have Nb:∀ c y,H c=some (.own y)→c≠x:=fun c y r z=>by subst z; rw [r] at mu; exact mu
 have RM:∀ c xs,H c=some (.tup xs)→c≠x:=fun c xs r z=>by subst z; rw [r] at mu; exact mu
 by_cases hb:b=x
 · subst hb; rw [aU] at q; cases q; exact new
 · rw [aH hb] at q
   by_cases Ek:b=e
   · have q':H b=some (.own x):=by
      rcases he with z | z
      · exact absurd (Ek.trans z) hb
      · rw [Ek]; exact z
     rw [q] at q'; cases q'
     obtain ⟨v,hv⟩:=HB
     exact ⟨v,by rw [Ek]; exact hv⟩
   · refine (ok b u q).mF (fun c v hc r=>k c v ?_ r) (fun c r=>by rw [aH (Nb c b r)]; exact r) fun c xs r=>by rw [aH (RM c xs r)]; exact r
     rcases hc with rfl | hc
     · exact Ek
     · rintro rfl
       rcases he with z | z
       · exact Nb c b hc z
       · rw [hc] at z; cases z; exact hb rfl
end
structure Un (fs ex:List Addr) (H H':Hp) (h h':Heap):Prop where
 keep:∀ b o,h.get? b=some o→H b=none→b∉fs→b∉ex→h'.get? b=some o
 slot:∀ b o,h.get? b=some o→H b=none→b∈fs→b∉ex→∃ sl,h'.get? b=some { o with slots:=sl }
 free:∀ b o,h.get? b=some o→H b=none→b∉ex→H' b=none
 there:∀ b o,h.get? b=some o→b∉ex→∃ o',h'.get? b=some o'
 iw:∀ b xs,H b=some (.tup xs)→H' b=some (.tup xs)
 gG:∀ b o u,H b=some (.tV o u)→H' b=some (.tV o u)
 iy:∀ b ps,H b=some (.Hz ps)→∃ more,H' b=some (.Hz (ps ++ more))
section
variable {fs Nc ex RN:List Addr} {H H1 H2:Hp} {h h1 h2 h':Heap} {a x e:Addr} {o:HO}
theorem Un.any (u:Un fs ex H H1 h h1) {b:Addr} {ob:Obj} (q:h.get? b=some ob) (n:H b=none) (hx:b∉ex):∃ sl,h1.get? b=some { ob with slots:=sl }:=by
 by_cases hb:b∈fs
 · exact u.slot b ob q n hb hx
 · exact ⟨ob.slots,u.keep b ob q n hb hx⟩
theorem Un.trans (a:Un fs ex H H1 h h1) (b:Un fs ex H1 H2 h1 h2):Un fs ex H H2 h h2 where
 keep:=fun c ob q n hc hx=>b.keep c ob (a.keep c ob q n hc hx) (a.free c ob q n hx) hc hx
 slot:=fun c ob q n hc hx=>by
  obtain ⟨sl,e1⟩:=a.slot c ob q n hc hx
  obtain ⟨RO,e2⟩:=b.slot c _ e1 (a.free c ob q n hx) hc hx
  exact ⟨RO,e2⟩
 free:=fun c ob q n hx=>by
  obtain ⟨o',e1⟩:=a.there c ob q hx
  exact b.free c o' e1 (a.free c ob q n hx) hx
 there:=fun c ob q hx=>by
  obtain ⟨o',e1⟩:=a.there c ob q hx
  exact b.there c o' e1 hx
 iw:=fun c xs q=>b.iw c xs (a.iw c xs q)
 gG:=fun c ob xs q=>b.gG c ob xs (a.gG c ob xs q)
 iy:=fun c ps q=>by
  obtain ⟨m1,e1⟩:=a.iy c ps q
  obtain ⟨m2,e2⟩:=b.iy c _ e1
  exact ⟨m1 ++ m2,by rw [e2,Array.append_assoc]⟩
theorem Un.kept (k:∀ b u,h.get? b=some u→h'.get? b=some u):Un fs ex H H h h' :=
 ⟨fun b ob q _ _ _=>k b ob q,fun b ob q _ _ _=>⟨ob.slots,k b ob q⟩,fun _ _ _ n _=>n,fun b ob q _=>⟨ob,k b ob q⟩,fun _ _ q=>q,fun _ _ _ q=>q,fun _ ps q=>⟨#[],by rw [q]; simp⟩⟩
theorem Un.refl:Un fs ex H H h h:=Un.kept fun _ _ q=>q
theorem Un.laid (k:∀ b u,h.get? b=some u→h'.get? b=some u) (hp:h.objs.size≤a) (hn:H a=none):Un fs ex H (upd H a o) h h' where
 keep:=fun b u q _ _ _=>k b u q
 slot:=fun b u q _ _ _=>⟨u.slots,k b u q⟩
 free:=fun b u q n _=>by rw [aH (gF (m_ (dq q) hp))]; exact n
 there:=fun b u q _=>⟨u,k b u q⟩
 iw:=fun b xs q=>by rw [aH (aV q hn)]; exact q
 gG:=fun b u xs q=>by rw [aH (aV q hn)]; exact q
 iy:=fun b ps q=>⟨#[],by rw [aH (aV q hn),q]; simp⟩
theorem Un.write (mu:Na (H x)) (he:e=x∨H e=some (.own x)) (k:∀ b u,b≠e→h.get? b=some u→h'.get? b=some u) (HB:∃ u,h'.get? e=some u):Un fs ex H (upd H x o) h h':=by
 have hx:∀ b,H b=none→b≠x:=fun b n z=>by subst z; rw [n] at mu; exact mu
 have hb:∀ b,H b=none→b≠e:=fun b n z=>by
  subst z
  rcases he with r | r
  · exact hx b n r
  · rw [n] at r; cases r
 have hm:∀ b u,H b=some u→¬ Na (some u)→b≠x:=fun b u q nm z=>by subst z; rw [q] at mu; exact nm mu
 refine ⟨fun b u q n _ _=>k b u (hb b n) q,fun b u q n _ _=>⟨u.slots,k b u (hb b n) q⟩,fun b u q n _=>by rw [aH (hx b n)]; exact n,fun b u q _=>?_,
  fun b xs q=>by rw [aH (hm b _ q fun z=>z)]; exact q,fun b u xs q=>by rw [aH (hm b _ q fun z=>z)]; exact q,fun b ps q=>⟨#[],by rw [aH (hm b _ q fun z=>z),q]; simp⟩⟩
 by_cases Ek:b=e
 · subst Ek; exact HB
 · exact ⟨u,k b u Ek q⟩
theorem Un.mono (u:Un fs ex H H1 h h1) (hs:∀ b∈fs,b∈Nc) (hx:∀ b∈ex,b∈RN):Un Nc RN H H1 h h1 :=
 ⟨fun b ob q n hb he=>u.keep b ob q n (fun z=>hb (hs b z)) fun z=>he (hx b z),fun _ _ q n _ he=>u.any q n fun z=>he (hx _ z),fun b ob q n he=>u.free b ob q n fun z=>he (hx b z),fun b ob q he=>u.there b ob q fun z=>he (hx b z),u.iw,u.gG,u.iy⟩
end
def QL (h:Heap) (H:Hp):List Addr:=(List.range h.objs.size).filter fun a=>(H a).isSome
def rQ (h:Heap) (H:Hp):Heap:=PySem.W.hideAll h (QL h H)
theorem zc (h:Heap) (H:Hp):(rQ h H).objs.size=h.objs.size:=PySem.W.hideAll_size _ _
theorem Bo {h:Heap} {H:Hp} {b:Addr} {o:Obj} (e:h.get? b=some o) (n:H b=none):(rQ h H).get? b=some o :=
 PySem.W.hideAll_get _ e fun hm=>by
  have q:(H b).isSome=true:=(M'.mp hm).2
  rw [n] at q; simp at q
theorem EK {h:Heap} {H:Hp} {b:Addr} {o:Obj} (e:(rQ h H).get? b=some o):h.get? b=some o∧H b=none:=by
 have e':h.get? b=some o:=PySem.W.of_hideAll (QL h H) e
 refine ⟨e',?_⟩
 cases q:H b with
 | none=>rfl
 | some x =>
   have hm:b∈QL h H:=M'.mpr ⟨Ei.mpr (dq e'),by simp [q]⟩
   have z:(rQ h H).get? b=none:=PySem.W.hideAll_none (QL h H) hm
   rw [z] at e; cases e
def EL (g h:Heap) (L:Addr):List (Addr×Obj):=(List.range h.objs.size).filterMap fun a=>if a=L∨(g.get? a).isSome=true then none else (h.get? a).map fun o=>(a,o)
def rest (g h:Heap) (L d:Addr):List (Addr×Obj):=(EL g h L).filter fun p=>decide (p.1≠d)
structure Mod (K:PySem.W.Frag) (mg:Str→Option Value) (base:Heap):Prop where
 Mu:K.In base
 glob:base.Ns mainGlobals mg
 blt:∃ mb,base.Ns builtinsNs mb∧∀ x:Str,x≠"__name__"→mb x=bootBuiltins x
 nolimit:base.NoLimit
structure Cx where
 prog:Program
 w:World
 K:PySem.W.Frag
 mg:Str→Option Value
 base:Heap
 A:Around
 N:List Str
 s₀:Shared
 H₀:Hp
 env:Env
 outer:List Env
 stack:List Env
 ex:List Addr
 fn:Str→Bool
 calm:Bool
 pn:List (Addr×Obj)
 xe:Value→Shared→Prop
def ke (l:List Env):List Addr:=l.filterMap (·.frame)
abbrev Cx.fs (X:Cx):List Addr:=ke X.outer
def rR (sc:Scope) (x:Str):Prop:=sc.names.lookup x=some .local∨sc.names.lookup x=some .cell∨sc.names.lookup x=some .free
def Loc (sc:Scope) (x:Str):Prop:=sc.names.lookup x=some .local∨sc.names.lookup x=some .cell
def Look (env:Env) (h:Heap) (m:Str→Option Value) (x:Str) (u:Value):Prop :=
 (env.kindOf x=some .local∧m x=some u)∨((env.kindOf x=some .cell∨env.kindOf x=some .free)∧∃ c,env.cells.lookup x=some c∧h.IsCell c (some u))
structure Cx.Ok (X:Cx):Prop where
 mod:Mod X.K X.mg X.base
 kind:X.env.scope.kind = .function
 glob:X.env.globals=mainGlobals
 blt:X.env.builtins=builtinsNs
 above:X.s₀.heap.objs.size≤X.env.locals
 inj:∀ x y c,X.env.cells.lookup x=some c→X.env.cells.lookup y=some c→x=y
 has:∀ x,(X.env.kindOf x=some .cell∨X.env.kindOf x=some .free)→∃ c,X.env.cells.lookup x=some c
 Mv:∀ x c,X.fn x=true→X.env.cells.lookup x=some c→X.s₀.heap.objs.size≤c
 hd:X.calm=true→X.A.handled=none
 frames:X.A.frames=some X.stack
 Nd:X.stack=X.outer∨(X.stack=X.env :: X.outer∧X.env.frame=some X.env.locals)
 RP:∀ b∈X.ex,b≠X.env.locals∧∀ x c,X.env.cells.lookup x=some c→c≠b
 bs:∀ b o,X.base.get? b=some o→X.s₀.heap.get? b=some o∧X.H₀ b=none
 Ba:X.base.objs.size≤X.s₀.heap.objs.size
 zd:∀ b o,X.base.get? b=some o→b∉X.ex
 Bp:∀ b∈X.ex,b∉X.fs
 kf:X.s₀.heap.FunFrames X.base X.outer
 EM:∀ b∈X.fs,X.H₀ b=none
structure Inv (X:Cx) (pins:List (Addr×Obj)) (σ:List (Option V)) (H:Hp) (s:Shared):Prop where
 ok:X.Ok
 os:s.os=X.s₀.os
 bare:AllBare s.gens
 base:Un X.fs X.ex X.H₀ H X.s₀.heap s.heap
 loc:∃ m,s.heap.Ns X.env.locals m∧∀ (i:Nat) (x:Str) (v:V),X.N[i]?=some x→σ[i]?=some (some v)→rR X.env.scope x→∃ u,RelV v u∧Look X.env s.heap m x u
 cell:∀ x c,X.env.cells.lookup x=some c→∃ v,s.heap.IsCell c v
 free:H X.env.locals=none
 d7:∀ x c,X.env.cells.lookup x=some c→H c=none
 pin:∀ p∈X.pn ++ pins,s.heap.get? p.1=some p.2∧H p.1=none∧p.1≠X.env.locals∧p.1∉X.fs∧∀ v,p.2.data≠.cell v
 bC:jt X.prog X.w H s.heap
 len:σ.length=X.N.length
section
variable {X:Cx} {pins:List (Addr×Obj)} {σ:List (Option V)} {H H':Hp} {s:Shared} {h':Heap}
theorem Cx.Ok.EN (ok:X.Ok) {b:Addr} {o:Obj} (e:X.base.get? b=some o):b∉X.fs:=fun hb=>by
 have:=(ok.kf.mem hb).1
 rw [e] at this; cases this
theorem Inv.bs (I:Inv X pins σ H s):∀ b o,X.base.get? b=some o→s.heap.get? b=some o∧H b=none:=fun b o e =>
 ⟨I.base.keep b o (I.ok.bs b o e).1 (I.ok.bs b o e).2 (I.ok.EN e) (I.ok.zd b o e),I.base.free b o (I.ok.bs b o e).1 (I.ok.bs b o e).2 (I.ok.zd b o e)⟩
theorem Inv.bk (I:Inv X pins σ H s):∀ b o,X.base.get? b=some o→s.heap.get? b=some o:=fun b o e=>(I.bs b o e).1
theorem Inv.mod (I:Inv X pins σ H s):Mod X.K X.mg X.base:=I.ok.mod
theorem Inv.la (I:Inv X pins σ H s):X.K.In s.heap:=I.ok.mod.Mu.keeps I.bk
theorem Inv.nolimit (I:Inv X pins σ H s):s.heap.NoLimit:=I.ok.mod.nolimit.keeps I.bk
theorem Inv.fr (I:Inv X pins σ H s):∃ m,Fr X.base X.env.locals s.heap m :=
 let ⟨m,hn,_⟩:=I.loc
 ⟨m,hn,I.bk,mD I.ok.Ba I.ok.above⟩
theorem Inv.lt (I:Inv X pins σ H s):X.env.locals < s.heap.objs.size:=let ⟨_,hn,_⟩:=I.loc; hn.lt
theorem Inv.sz (I:Inv X pins σ H s):X.s₀.heap.objs.size≤s.heap.objs.size:=mD I.ok.above (Nat.le_of_lt I.lt)
theorem Inv.RQ (I:Inv X pins σ H s) {a:Addr} (h:s.heap.objs.size≤a):a∉X.fs:=fun hb=>by
 obtain ⟨_,o,ho,_⟩:=I.ok.kf.mem hb
 exact absurd (m_ (dq ho) (mD I.sz h)) (Ej _)
theorem Inv.Bq (I:Inv X pins σ H s):∀ x c,X.env.cells.lookup x=some c→c≠X.env.locals:=fun x c e z=>by
 obtain ⟨v,o,ho,hd⟩:=I.cell x c e
 obtain ⟨m,⟨o',es,ep,vQ,Wi,_⟩,_⟩:=I.loc
 rw [z,vQ] at ho; cases ho; rw [Wi] at hd; cases hd
theorem Inv.kf (I:Inv X pins σ H s):s.heap.FunFrames X.base X.outer:=by
 have all:∀ (l:List Env),(∀ b∈ke l,b∈X.fs)→X.s₀.heap.FunFrames X.base l→s.heap.FunFrames X.base l:=by
  intro l
  induction l with
  | nil=>intro _ _; trivial
  | cons env r ih =>
    intro hs hl
    obtain ⟨hk,⟨L,o,hf,hn,ho,hd⟩,hr⟩:=hl
    have hL:L∈X.fs:=hs L (by unfold ke; rw [mZ,hf]; exact jz)
    obtain ⟨sl,e⟩:=I.base.slot L o ho (I.ok.EM L hL) hL fun z=>I.ok.Bp L z hL
    exact ⟨hk,⟨L,_,hf,hn,e,hd⟩,ih (fun b hb=>hs b (by unfold ke; rw [mZ,hf]; exact jc _ hb)) hr⟩
 exact all X.outer (fun _ hb=>hb) I.ok.kf
theorem Inv.stack (I:Inv X pins σ H s):s.heap.FunFrames X.base X.stack:=by
 rcases I.ok.Nd with e | ⟨e,hf⟩
 · rw [e]; exact I.kf
 · rw [e]
   obtain ⟨m,hn,_⟩:=I.loc
   refine .cons (by rw [I.ok.kind]; decide) hf hn ?_ I.kf
   exact M7 (mD I.ok.Ba I.ok.above)
theorem Inv.vR (I:Inv X pins σ H s):∀ b∈ke X.stack,b∈X.env.locals :: X.fs:=fun b hb=>by
 rcases I.ok.Nd with e | ⟨e,hf⟩
 · rw [e] at hb; exact jc _ hb
 · rw [e] at hb
   unfold ke at hb
   rw [mZ,hf] at hb
   exact hb
theorem Inv.ng (I:Inv X pins σ H s):∀ b∈ke X.stack,H b=none:=fun b hb=>by
 rcases dS.mp (I.vR b hb) with e | hb
 · rw [e]; exact I.free
 · obtain ⟨_,o,ho,_⟩:=I.ok.kf.mem hb
   exact I.base.free b o ho (I.ok.EM b hb) fun z=>I.ok.Bp b z hb
theorem Inv.step {g':Array GenState} {t':Nat} {d':Drawn} {ch:List Addr} (I:Inv X pins σ H s)
  (El:∀ b∈ch,(b∈X.ex∨X.s₀.heap.objs.size≤b)∧b≠X.env.locals∧(∀ x c,X.env.cells.lookup x=some c→c≠b)∧∀ p∈X.pn ++ pins,p.1≠b)
  (keep:∀ b o,b≠X.env.locals→b∉X.fs→b∉ch→s.heap.get? b=some o→H b=none→h'.get? b=some o)
  (slot:∀ b o,b≠X.env.locals→b∈X.fs→b∉ch→s.heap.get? b=some o→H b=none→∃ sl,h'.get? b=some { o with slots:=sl }) (free:∀ b o,b∉ch→s.heap.get? b=some o→H b=none→H' b=none)
  (there:∀ b o,b∉ch→s.heap.get? b=some o→∃ o',h'.get? b=some o')
  (iw:∀ b xs,H b=some (.tup xs)→H' b=some (.tup xs)) (gG:∀ b o u,H b=some (.tV o u)→H' b=some (.tV o u)) (iy:∀ b ps,H b=some (.Hz ps)→∃ more,H' b=some (.Hz (ps ++ more)))
  (ns:∀ m,s.heap.Ns X.env.locals m→h'.Ns X.env.locals m) (bC:jt X.prog X.w H' h') (hg:AllBare g') :
  Inv X pins σ H' { s with heap:=h',gens:=g',drawn:=d',toks:=t' }:=by
 have U9:∀ b o,X.s₀.heap.get? b=some o→b≠X.env.locals:=fun b o e=>gF (m_ (dq e) I.ok.above)
 have QM:∀ b o,X.s₀.heap.get? b=some o→b∉X.ex→b∉ch:=fun b o e hx hb=>by
  rcases (El b hb).1 with z | z
  · exact hx z
  · exact absurd (m_ (dq e) z) (Ej _)
 have cellK:∀ x c,X.env.cells.lookup x=some c→∀ v,s.heap.IsCell c v→h'.IsCell c v:=fun x c e v ⟨o,ho,hd⟩=>by
  have Br:c∉ch:=fun z=>(El c z).2.2.1 x c e rfl
  by_cases hc:c∈X.fs
  · obtain ⟨sl,q⟩:=slot c o (I.Bq x c e) hc Br ho (I.d7 x c e)
    exact ⟨_,q,hd⟩
  · exact ⟨o,keep c o (I.Bq x c e) hc Br ho (I.d7 x c e),hd⟩
 refine ⟨I.ok,I.os,hg,⟨fun b o e n hb hx=>?_,fun b o e n hb hx=>?_,fun b o e n hx=>?_,fun b o e hx=>?_,fun b xs e=>iw b xs (I.base.iw b xs e),fun b o xs e=>gG b o xs (I.base.gG b o xs e),fun b ps e=>?_⟩,?_,fun x c e=>?_,?_,fun x c e=>?_,fun p hp=>?_,bC,I.len⟩
 · exact keep b o (U9 b o e) hb (QM b o e hx) (I.base.keep b o e n hb hx) (I.base.free b o e n hx)
 · obtain ⟨sl,e1⟩:=I.base.slot b o e n hb hx
   obtain ⟨RO,e2⟩:=slot b _ (U9 b o e) hb (QM b o e hx) e1 (I.base.free b o e n hx)
   exact ⟨RO,e2⟩
 · obtain ⟨o',e1⟩:=I.base.there b o e hx
   exact free b o' (QM b o e hx) e1 (I.base.free b o e n hx)
 · obtain ⟨o',e1⟩:=I.base.there b o e hx
   exact there b o' (QM b o e hx) e1
 · obtain ⟨m1,e1⟩:=I.base.iy b ps e
   obtain ⟨m2,e2⟩:=iy b _ e1
   exact ⟨m1 ++ m2,by rw [e2,Array.append_assoc]⟩
 · obtain ⟨m,hn,hl⟩:=I.loc
   refine ⟨m,ns m hn,fun i x v e1 e2 e3=>?_⟩
   obtain ⟨u,r,l⟩:=hl i x v e1 e2 e3
   refine ⟨u,r,?_⟩
   rcases l with l | ⟨k,c,e,z⟩
   · exact .inl l
   · exact .inr ⟨k,c,e,cellK x c e _ z⟩
 · obtain ⟨v,z⟩:=I.cell x c e
   exact ⟨v,cellK x c e v z⟩
 · obtain ⟨m,⟨o,_,_,ho,_⟩,_⟩:=I.loc
   exact free _ o (fun z=>(El _ z).2.1 rfl) ho I.free
 · obtain ⟨v,o,ho,hd⟩:=I.cell x c e
   exact free c o (fun z=>(El c z).2.2.1 x c e rfl) ho (I.d7 x c e)
 · obtain ⟨e,n,ne,nf,d⟩:=I.pin p hp
   have Br:p.1∉ch:=fun z=>(El p.1 z).2.2.2 p hp rfl
   exact ⟨keep p.1 p.2 ne nf Br e n,free p.1 p.2 Br e n,ne,nf,d⟩
theorem Inv.un {t':Nat} (I:Inv X pins σ H s) (u:Un X.fs [] H H' s.heap h') (bC:jt X.prog X.w H' h'):Inv X pins σ H' { s with heap:=h',toks:=t' }:=by
 obtain ⟨m,⟨o,es,ep,ho,r⟩,_⟩:=id I.loc
 obtain ⟨sl,hL⟩:=u.any ho I.free (by simp)
 exact I.step (g':=s.gens) (d':=s.drawn) (ch:=[]) (fun _ z=>nomatch z) (fun b o _ hb _ e n=>u.keep b o e n hb (by simp)) (fun b o _ hb _ e n=>u.slot b o e n hb (by simp)) (fun b o _ e n=>u.free b o e n (by simp)) (fun b o _ e=>u.there b o e (by simp)) u.iw u.gG u.iy (fun m' hm=>by
  obtain ⟨o',RS,RT,vQ,r'⟩:=hm
  rw [ho] at vQ; cases vQ
  exact ⟨_,RS,RT,hL,r'⟩) bC I.bare
theorem Inv.call {g':Array GenState} {t':Nat} {d':Drawn} {ch:List Addr} (I:Inv X pins σ H s) (u:Un (ke X.stack) ch H H' s.heap h') (bC:jt X.prog X.w H' h') (hg:AllBare g')
  (El:∀ b∈ch,(b∈X.ex∨X.s₀.heap.objs.size≤b)∧b≠X.env.locals∧(∀ x c,X.env.cells.lookup x=some c→c≠b)∧∀ p∈X.pn ++ pins,p.1≠b) :
  Inv X pins σ H' { s with heap:=h',gens:=g',drawn:=d',toks:=t' }:=by
 obtain ⟨m,⟨o,es,ep,ho,r⟩,_⟩:=id I.loc
 obtain ⟨sl,hL⟩:=u.any ho I.free fun z=>(El _ z).2.1 rfl
 exact I.step (ch:=ch) El (fun b o hL hb hc e n=>u.keep b o e n (fun z=>(dS.mp (I.vR b z)).elim hL hb) hc) (fun b o _ _ hc e n=>u.any e n hc) (fun b o hc e n=>u.free b o e n hc) (fun b o hc e=>u.there b o e hc) u.iw u.gG u.iy (fun m' hm=>by
  obtain ⟨o',RS,RT,vQ,r'⟩:=hm
  rw [ho] at vQ; cases vQ
  exact ⟨_,RS,RT,hL,r'⟩) bC hg
theorem Inv.turned {t':Nat} {it:Addr} (I:Inv X pins σ H s) (k:∀ b o,b≠it→s.heap.get? b=some o→h'.get? b=some o) (hn:H it=none) (hL:it≠X.env.locals)
  (h1:it∈X.ex∨X.s₀.heap.objs.size≤it) (h2:∀ x c,X.env.cells.lookup x=some c→c≠it) (h3:∀ p∈X.pn ++ pins,p.1≠it):Inv X pins σ H { s with heap:=h',toks:=t' }:=by
 have U_:∀ b u,H b=some u→b≠it:=fun b u e z=>by rw [z,hn] at e; cases e
 refine I.step (g':=s.gens) (d':=s.drawn) (ch:=[it]) (fun b hb=>?_) (fun b o _ _ hc e _=>k b o (fun z=>hc (by simp [z])) e) (fun b o _ _ hc e _=>⟨o.slots,k b o (fun z=>hc (by simp [z])) e⟩) (fun _ _ _ _ n=>n)
  (fun b o hc e=>⟨o,k b o (fun z=>hc (by simp [z])) e⟩) (fun _ _ e=>e) (fun _ _ _ e=>e) (fun b ps e=>⟨#[],by rw [e]; simp⟩) (fun m hm=>?_) (fun b u e=>?_) I.bare
 · have e:b=it:=by simpa using hb
   subst e
   exact ⟨h1,hL,h2,h3⟩
 · obtain ⟨o,es,ep,ho,r⟩:=hm
   exact ⟨o,es,ep,k _ o (Ne.symm hL) ho,r⟩
 · refine (I.bC b u e).mF (fun c v hc q=>k c v ?_ q) (fun _ q=>q) fun _ _ q=>q
   rcases hc with z | z
   · rw [z]; exact U_ b u e
   · exact U_ c _ z
theorem Inv.tok (I:Inv X pins σ H s) (t:Nat):Inv X pins σ H { s with toks:=t }:=I.un (h':=s.heap) (t':=t) Un.refl I.bC
theorem Inv.kept {t':Nat} (I:Inv X pins σ H s) (k:∀ b u,s.heap.get? b=some u→h'.get? b=some u):Inv X pins σ H { s with heap:=h',toks:=t' }:=I.un (Un.kept k) (I.bC.kept k)
theorem Inv.laid {a:Addr} {o:HO} {t':Nat} (I:Inv X pins σ H s) (k:∀ b u,s.heap.get? b=some u→h'.get? b=some u) (hp:s.heap.objs.size≤a) (new:bM X.prog X.w (upd H a o) h' a o) :
 Inv X pins σ (upd H a o) { s with heap:=h',toks:=t' }:=I.un (Un.laid k hp (I.bC.fresh hp)) (I.bC.laid k hp new)
theorem Inv.write {x e:Addr} {o:HO} {t':Nat} (I:Inv X pins σ H s) (mu:Na (H x)) (he:e=x∨H e=some (.own x)) (k:∀ b u,b≠e→s.heap.get? b=some u→h'.get? b=some u) (HB:∃ u,h'.get? e=some u)
 (new:bM X.prog X.w (upd H x o) h' x o):Inv X pins σ (upd H x o) { s with heap:=h',toks:=t' }:=I.un (Un.write mu he k HB) (I.bC.write mu he k HB new)
theorem Inv.weak {σ':List (Option V)} (I:Inv X pins σ H s) (hl:σ'.length=σ.length) (w:∀ (i:Nat) v,σ'[i]?=some (some v)→σ[i]?=some (some v)):Inv X pins σ' H s :=
 ⟨I.ok,I.os,I.bare,I.base,let ⟨m,hn,Nf⟩:=I.loc; ⟨m,hn,fun i x v e1 e2 e3=>Nf i x v e1 (w i v e2) e3⟩,I.cell,I.free,I.d7,I.pin,I.bC,hl.trans I.len⟩
theorem Inv.x9 {x_:List (Addr×Obj)} (I:Inv X pins σ H s) (h:∀ p∈x_,s.heap.get? p.1=some p.2∧H p.1=none∧p.1≠X.env.locals∧p.1∉X.fs∧∀ v,p.2.data≠.cell v):Inv X x_ σ H s :=
 ⟨I.ok,I.os,I.bare,I.base,I.loc,I.cell,I.free,I.d7,fun p hp=>(jA.mp hp).elim (fun z=>I.pin p (mz _ z)) (h p),I.bC,I.len⟩
theorem nM {N:List Str} (hN:N.Nodup) {i j:Nat} {x:Str} (a:N[i]?=some x) (b:N[j]?=some x):i=j:=by
 obtain ⟨h1,e1⟩:=gh.mp a
 obtain ⟨h2,e2⟩:=gh.mp b
 exact (List.getElem_inj hN).mp (e1.trans e2.symm)
theorem qS {M:Model} {A:Around} {E:Value→Shared→Prop} {i:Nat} {x:Str} {v:V} {u:Value} {Q:Unit→Shared→Prop} (I:Inv X pins σ H s) (hN:X.N.Nodup) (hi:X.N[i]?=some x) (hx:Loc X.env.scope x) (r:RelV v u)
  (h:∀ s',Inv X pins (σ.set i (some v)) H s'→(∃ a,Heap.SameBut a s.heap s'.heap∧(a=X.env.locals∨X.env.cells.lookup x=some a))→Q () s') (hf:X.fn x=true∨X.env.scope.names.lookup x=some .local:=by first | exact .inl rfl | exact .inr rfl | assumption):wpAny M A (storeName X.env x u) Q E s:=by
 obtain ⟨m,hn,hl⟩:=id I.loc
 have Jd:(X.env.scope.kind == .class || (X.env.scope.kind == .module && X.env.locals != X.env.globals))=false:=by rw [I.ok.kind]; rfl
 have QN:i < σ.length:=by rw [I.len]; exact (gh.mp hi).1
 have Bq:=I.Bq
 have tracked:∀ {a:Addr} {h':Heap},(∃ o,s.heap.get? a=some o∧H a=none)→Heap.SameBut a s.heap h'→jt X.prog X.w H h':=fun {a h'} ha hs b ob e=>by
  obtain ⟨_,_,HC⟩:=ha
  refine (I.bC b ob e).mF (fun c w' hc q=>(hs.2 c ?_).trans q) (fun _ q=>q) fun _ _ q=>q
  rintro rfl
  rcases hc with rfl | hc
  · rw [HC] at e; cases e
  · rw [HC] at hc; cases hc
 rcases hx with hk | hk
 · refine wpAny_storeName_local hk hn (fun h' Je hs=>?_) Jd
   obtain ⟨oL,_,_,U',_⟩:=id hn
   refine h _ ⟨I.ok,I.os,I.bare,⟨fun b o e n hb hx=>?_,fun b o e n hb hx=>?_,I.base.free,fun b o e hx=>?_,I.base.iw,I.base.gG,I.base.iy⟩,⟨_,Je,fun j y v' e1 e2 e3=>?_⟩,fun y c e=>?_,I.free,I.d7,fun p hp=>?_,tracked ⟨oL,U',I.free⟩ hs,by simpa using I.len⟩ ⟨_,hs,.inl rfl⟩
   · exact (hs.2 b (gF (m_ (dq e) I.ok.above))).trans (I.base.keep b o e n hb hx)
   · obtain ⟨sl,e1⟩:=I.base.slot b o e n hb hx
     exact ⟨sl,(hs.2 b (gF (m_ (dq e) I.ok.above))).trans e1⟩
   · obtain ⟨o',e1⟩:=I.base.there b o e hx
     exact ⟨o',(hs.2 b (gF (m_ (dq e) I.ok.above))).trans e1⟩
   · by_cases hj:j=i
     · subst hj
       rw [hi] at e1; cases e1
       rw [x5 QN] at e2
       cases e2
       exact ⟨u,r,.inl ⟨hk,by simp⟩⟩
     · rw [t7 (Ne.symm hj)] at e2
       obtain ⟨u',r',q⟩:=hl j y v' e1 e2 e3
       refine ⟨u',r',?_⟩
       rcases q with ⟨k,e⟩ | ⟨k,c,e,z⟩
       · refine .inl ⟨k,?_⟩
         have:y≠x:=fun e=>hj (nM hN e1 (e▸hi))
         simp [this,e]
       · exact .inr ⟨k,c,e,z.sameBut hs (Bq y c e)⟩
   · obtain ⟨w',z⟩:=I.cell y c e
     exact ⟨w',z.sameBut hs (Bq y c e)⟩
   · obtain ⟨e,n,ne,nf,d⟩:=I.pin p hp
     exact ⟨(hs.2 p.1 ne).trans e,n,ne,nf,d⟩
 · have RU:X.fn x=true:=by
    rcases hf with z | z
    · exact z
    · rw [z] at hk; cases hk
   obtain ⟨c,hc⟩:=I.ok.has x (.inl hk)
   obtain ⟨w',z⟩:=I.cell x c hc
   refine wpAny_storeName_cell I.ok.kind hk hc z (fun h' Ng hs=>?_)
   obtain ⟨oc,Va,RW⟩:=id z
   refine h { s with heap:=h' } ⟨I.ok,I.os,I.bare,⟨fun b o e n hb hx=>?_,fun b o e n hb hx=>?_,I.base.free,fun b o e hx=>?_,I.base.iw,I.base.gG,I.base.iy⟩,⟨m,hn.sameBut hs (Ne.symm (Bq x c hc)),fun j y v' e1 e2 e3=>?_⟩,fun y c' e=>?_,I.free,I.d7,fun p hp=>?_,tracked ⟨oc,Va,I.d7 x c hc⟩ hs,by simpa using I.len⟩ ⟨c,hs,.inr hc⟩
   · exact (hs.2 b (gF (m_ (dq e) (I.ok.Mv x c RU hc)))).trans (I.base.keep b o e n hb hx)
   · obtain ⟨sl,e1⟩:=I.base.slot b o e n hb hx
     exact ⟨sl,(hs.2 b (gF (m_ (dq e) (I.ok.Mv x c RU hc)))).trans e1⟩
   · obtain ⟨o',e1⟩:=I.base.there b o e hx
     exact ⟨o',(hs.2 b (gF (m_ (dq e) (I.ok.Mv x c RU hc)))).trans e1⟩
   · by_cases hj:j=i
     · subst hj
       rw [hi] at e1; cases e1
       rw [x5 QN] at e2
       cases e2
       exact ⟨u,r,.inr ⟨.inl hk,c,hc,Ng⟩⟩
     · rw [t7 (Ne.symm hj)] at e2
       obtain ⟨u',r',q⟩:=hl j y v' e1 e2 e3
       refine ⟨u',r',?_⟩
       rcases q with q | ⟨k,c',e,z'⟩
       · exact .inl q
       · refine .inr ⟨k,c',e,z'.sameBut hs ?_⟩
         rintro rfl
         exact hj (nM hN e1 (I.ok.inj _ _ _ e hc▸hi))
   · by_cases Vb:c'=c
     · subst Vb; exact ⟨_,Ng⟩
     · obtain ⟨w2,z2⟩:=I.cell y c' e
       exact ⟨w2,z2.sameBut hs Vb⟩
   · obtain ⟨e,n,ne,nf,d⟩:=I.pin p hp
     refine ⟨(hs.2 p.1 ?_).trans e,n,ne,nf,d⟩
     intro q
     rw [q,Va] at e
     have q':oc=p.2:=Option.some.inj e
     exact d w' (by rw [← q']; exact RW)
theorem iD {M:Model} {A:Around} {E:Value→Shared→Prop} {i:Nat} {x:Str} {v:V} {u:Value} {Q:Unit→Shared→Prop} (I:Inv X pins σ H s) (hN:X.N.Nodup) (hi:X.N[i]?=some x) (hx:Loc X.env.scope x) (r:RelV v u)
  (h:∀ s',Inv X pins (σ.set i (some v)) H s'→Q () s') (hf:X.fn x=true∨X.env.scope.names.lookup x=some .local:=by first | exact .inl rfl | exact .inr rfl | assumption):wpAny M A (storeName X.env x u) Q E s :=
 qS I hN hi hx r (fun s' I' _=>h s' I') hf
theorem Inv.Bs {s':Shared} {ch:List Addr} (I:Inv X pins σ H s) (ho:s'.os=s.os) (u:Un (ke X.stack) ch H H' s.heap s'.heap) (bC:jt X.prog X.w H' s'.heap) (hg:AllBare s'.gens)
  (El:∀ b∈ch,(b∈X.ex∨X.s₀.heap.objs.size≤b)∧b≠X.env.locals∧(∀ x c,X.env.cells.lookup x=some c→c≠b)∧∀ p∈X.pn ++ pins,p.1≠b):Inv X pins σ H' s':=by
 obtain ⟨h',g',d',t',o'⟩:=s'
 have e:o'=s.os:=ho
 subst e
 exact I.call (g':=g') (t':=t') (d':=d') u bC hg El
end
abbrev XK:=Value→Option Addr→Hp→Prop
abbrev St:=List (Option V)
abbrev VK:=V→Hp→Prop
abbrev TE:=St→Hp→VK→Prop
abbrev TT:=St→Hp→(Bool→Hp→Prop)→Prop
abbrev TA:=St→Hp→(List V→Hp→Prop)→Prop
structure Ends where
 nx:St→Hp→Prop
 rt:VK
 bk:St→Hp→Prop:=fun _ _=>False
 ct:St→Hp→Prop:=fun _ _=>False
abbrev TS:=Ends→St→Hp→Prop
def EP (X:Cx) (pins:List (Addr×Obj)) (σ:St) (Q:VK) (u:Value) (s':Shared):Prop:=∃ v H',Inv X pins σ H' s'∧RelV v u∧Q v H'
def TP (X:Cx) (pins:List (Addr×Obj)) (σ:St) (Q:Bool→Hp→Prop) (b:Bool) (s':Shared):Prop:=∃ H',Inv X pins σ H' s'∧Q b H'
def AP (X:Cx) (pins:List (Addr×Obj)) (σ:St) (Q:List V→Hp→Prop) (us:List Value) (s':Shared):Prop:=∃ vs H',Inv X pins σ H' s'∧Vals vs us∧Q vs H'
def SP (X:Cx) (pins:List (Addr×Obj)) (D:Ends) (f:Flow) (s':Shared):Prop :=
 match f with
 | .next=>∃ σ' H',Inv X pins σ' H' s'∧D.nx σ' H'
 | .brk=>∃ σ' H',Inv X pins σ' H' s'∧D.bk σ' H'
 | .cont=>∃ σ' H',Inv X pins σ' H' s'∧D.ct σ' H'
 | .ret u=>∃ v σ' H',Inv X pins σ' H' s'∧RelV v u∧D.rt v H'
def PE (X:Cx) (e:Expr) (t:TE):Prop :=
 ∀ (pins:List (Addr×Obj)) (s:Shared) (σ:St) (H:Hp) (Q:VK),Inv X pins σ H s→t σ H Q→wpAny (model X.prog X.w) X.A (eval e X.env) (EP X pins σ Q) X.xe s
def PT (X:Cx) (e:Expr) (t:TT):Prop :=
 ∀ (pins:List (Addr×Obj)) (s:Shared) (σ:St) (H:Hp) (Q:Bool→Hp→Prop),Inv X pins σ H s→t σ H Q→wpAny (model X.prog X.w) X.A (isTrue e X.env (eval e X.env)) (TP X pins σ Q) X.xe s
def PW (X:Cx) (e:Expr) (t:TT):Prop :=
 ∀ (whole:Sem Value) (pins:List (Addr×Obj)) (s:Shared) (σ:St) (H:Hp) (Q:Bool→Hp→Prop),Inv X pins σ H s→t σ H Q→wpAny (model X.prog X.w) X.A (isTrue e X.env whole) (TP X pins σ Q) X.xe s
theorem PW.pt {X:Cx} {e:Expr} {t:TT} (h:PW X e t):PT X e t:=h _
def PA (X:Cx) (es:List Expr) (t:TA):Prop :=
 ∀ (pos:Pos) (pins:List (Addr×Obj)) (s:Shared) (σ:St) (H:Hp) (Q:List V→Hp→Prop),Inv X pins σ H s→t σ H Q→wpAny (model X.prog X.w) X.A (spliced (backTo pos (starEach es X.env))) (AP X pins σ Q) X.xe s
def PS (X:Cx) (st:Stmt) (t:TS):Prop :=
 ∀ (pins:List (Addr×Obj)) (s:Shared) (σ:St) (H:Hp) (D:Ends),Inv X pins σ H s→t D σ H→wpAny (model X.prog X.w) X.A (exec st X.env) (SP X pins D) X.xe s
def nh (X:Cx) (st:List Stmt) (t:TS):Prop :=
 ∀ (pins:List (Addr×Obj)) (s:Shared) (σ:St) (H:Hp) (D:Ends),Inv X pins σ H s→t D σ H→wpAny (model X.prog X.w) X.A (execs st X.env) (SP X pins D) X.xe s
theorem bT {α:Type} {t:Sem α} {Q Q':α→Shared→Prop} {M:Model} {A:Around} {E:Value→Shared→Prop} {s:Shared} (h:wpAny M A t Q E s) (hQ:∀ a s,Q a s→Q' a s):wpAny M A t Q' E s:=wpAny_mono h hQ fun _ _ x=>x
section
variable {X:Cx}
def Jf (i:Nat):TE:=fun σ H Q=>∃ v,σ[i]?=some (some v)∧Q v H
def tC (v:V):TE:=fun _ H Q=>Q v H
theorem cQ {i:Nat} {x:Str} {pos:Pos} (hN:X.N[i]?=some x) (hv:rR X.env.scope x) (hd:gg x:=by decide) (iA:tZ x:=by decide):PE X (.Name x pos) (Jf i):=by
 intro pins s σ H Q I h
 obtain ⟨v,e,h⟩:=h
 obtain ⟨m,hn,hl⟩:=I.loc
 obtain ⟨u,r,l⟩:=hl i x v hN e hv
 have fin:EP X pins σ Q u s:=⟨v,H,I,r,h⟩
 rcases l with ⟨hk,hm⟩ | ⟨hk,c,hc,ya⟩
 · exact wpAny_Name (wpAny_loadName_local I.ok.kind hk hn hm fin) hd
 · rcases hk with hk | hk
   · exact wpAny_Name (wpAny_loadName_cell I.ok.kind hk hc ya fin) hd
   · exact wpAny_Name (wpAny_loadName_free I.ok.kind hk hc ya fin iA) hd
theorem Jg {i j pos}:PE X (.Constant (.int i) j pos) (tC (.int i)):=fun _ _ _ H _ I h=>wpAny_Constant_int ⟨.int i,H,I.tok _,⟨_,rfl⟩,h⟩
theorem Nh {b j pos}:PE X (.Constant (.bool b) j pos) (tC (.bl b)):=fun _ _ _ H _ I h=>Constant_bool ⟨.bl b,H,I,rfl,h⟩
theorem Jh {j pos}:PE X (.Constant .none j pos) (tC .bh):=fun _ _ _ H _ I h=>Constant_none ⟨.bh,H,I,rfl,h⟩
theorem Ji {x j pos}:PE X (.Constant (.str x) j pos) (tC (.str x)):=fun _ _ _ H _ I h=>Calls.Constant_str ⟨.str x,H,I.tok _,⟨_,rfl⟩,h⟩
def Gl (X:Cx) (x:Str):Prop:=X.env.kindOf x=some .globalImplicit
theorem jd {E:Value→Shared→Prop} {pins:List (Addr×Obj)} {s:Shared} {σ:St} {H:Hp} {x:Str} {u:Value} {pos:Pos} {Q:Value→Shared→Prop} (I:Inv X pins σ H s) (hg:Gl X x) (hm:X.mg x=some u) (h:Q u s)
  (hd:gg x:=by decide):wpAny (model X.prog X.w) X.A (eval (.Name x pos) X.env) Q E s :=
 Calls.Name_function_global I.ok.kind hg (Calls.loadGlobal_global (by rw [I.ok.glob]; exact I.mod.glob.keeps I.bk) hm h) hd
theorem jL {E:Value→Shared→Prop} {pins:List (Addr×Obj)} {s:Shared} {σ:St} {H:Hp} {x:Str} {u:Value} {pos:Pos} {Q:Value→Shared→Prop} (I:Inv X pins σ H s) (hg:Gl X x) (hm:X.mg x=none) (hv:bootBuiltins x=some u) (h:Q u s)
  (hn:x≠"__name__":=by decide) (hd:gg x:=by decide):wpAny (model X.prog X.w) X.A (eval (.Name x pos) X.env) Q E s:=by
 obtain ⟨mb,h1,h2⟩:=I.mod.blt
 exact Calls.Name_function_global I.ok.kind hg (Calls.loadGlobal_builtin (by rw [I.ok.glob]; exact I.mod.glob.keeps I.bk) hm (by rw [I.ok.blt]; exact h1.keeps I.bk) ((h2 x hn).trans hv) h) hd
theorem rS {x:Str} {v:V} {u:Value} {pos:Pos} (hg:Gl X x) (hm:X.mg x=some u) (r:RelV v u) (hd:gg x:=by decide):PE X (.Name x pos) (tC v) :=
 fun _ _ _ H _ I h=>jd I hg hm ⟨v,H,I,r,h⟩ hd
theorem EO {x:Str} {v:V} {u:Value} {pos:Pos} (hg:Gl X x) (hm:X.mg x=none) (hv:bootBuiltins x=some u) (r:RelV v u) (hn:x≠"__name__":=by decide) (hd:gg x:=by decide):PE X (.Name x pos) (tC v) :=
 fun _ _ _ H _ I h=>jL I hg hm hv ⟨v,H,I,r,h⟩ hn hd
variable {a b:Expr} {ta tb:TE} {pos:Pos}
def tB (t:TE):TT:=fun σ H Q=>t σ H fun x H1=>∃ c,x = .bl c∧Q c H1
theorem Jj {e:Expr} {t:TE} (h:PE X e t) (he:∀ whole,isTrue e X.env whole=(do let v ← whole; standAt e.pos; holding [v] (truthy v)):=by intro _; rfl):PT X e (tB t):=by
 intro pins s σ H Q I hw
 refine isTrue_plain (bT (h pins s σ H _ I hw) fun v s1 ⟨x,H1,I1,r1,q1⟩=>?_) (he _)
 obtain ⟨d,rfl,q⟩:=q1
 cases r1
 exact wpAny_truthy_bool ⟨H1,I1,q⟩
variable {tA Ni:TT} {rest:List Expr}
def RX (t u:TT):TT:=fun σ H Q=>t σ H fun c H1=>if c=true then u σ H1 Q else Q false H1
def Wj (t u:TT):TT:=fun σ H Q=>t σ H fun c H1=>if c=true then Q true H1 else u σ H1 Q
def RY (t:TT):TT:=fun σ H Q=>t σ H fun c H1=>Q (!c) H1
theorem pw_and1 (ha:PT X a tA):PW X (.BoolOp .And [a] pos) tA:=by
 intro wh pins s σ H Q I h
 refine isTrue_and (bT (ha pins s σ H Q I h) fun c s1 e=>?_)
 cases c with
 | true=>exact isTrue_and_nil e
 | false=>exact e
theorem pw_or1 (ha:PT X a tA):PW X (.BoolOp .Or [a] pos) tA:=by
 intro wh pins s σ H Q I h
 refine isTrue_or (bT (ha pins s σ H Q I h) fun c s1 e=>?_)
 cases c with
 | false=>exact isTrue_or_nil e
 | true=>exact e
theorem pw_and (ha:PT X a tA) (hb:PW X (.BoolOp .And (b :: rest) pos) Ni):PW X (.BoolOp .And (a :: b :: rest) pos) (RX tA Ni):=by
 intro wh pins s σ H Q I h
 refine isTrue_and (bT (ha pins s σ H _ I h) fun c s1 ⟨H1,I1,q1⟩=>?_)
 cases c with
 | true=>exact hb wh pins s1 σ H1 Q I1 q1
 | false=>exact ⟨H1,I1,q1⟩
theorem pw_or (ha:PT X a tA) (hb:PW X (.BoolOp .Or (b :: rest) pos) Ni):PW X (.BoolOp .Or (a :: b :: rest) pos) (Wj tA Ni):=by
 intro wh pins s σ H Q I h
 refine isTrue_or (bT (ha pins s σ H _ I h) fun c s1 ⟨H1,I1,q1⟩=>?_)
 cases c with
 | true=>exact ⟨H1,I1,q1⟩
 | false=>exact hb wh pins s1 σ H1 Q I1 q1
theorem Jk (ha:PT X a tA):PT X (.UnaryOp .Not a pos) (RY tA):=by
 intro pins s σ H Q I h
 exact isTrue_not (ha pins s σ H (fun c H1=>Q (!c) H1) I h)
def Nj (ta tb:TE):TE:=fun σ H Q=>ta σ H fun x H1=>∃ c,x = .bl c∧if c=true then tb σ H1 Q else Q (.bl false) H1
def RZ (ta tb:TE):TE:=fun σ H Q=>ta σ H fun x H1=>∃ c,x = .bl c∧if c=true then Q (.bl true) H1 else tb σ H1 Q
def Nk (ta:TE):TE:=fun σ H Q=>ta σ H fun x H1=>∃ c,x = .bl c∧Q (.bl (!c)) H1
theorem Jl {op} {t:TE} (h:PE X a t):PE X (.BoolOp op [a] pos) t:=fun pins s σ H Q I hw=>BoolOp_one (h pins s σ H Q I hw)
theorem Jm (ha:PE X a ta) (hb:PE X (.BoolOp .And (b :: rest) pos) tb):PE X (.BoolOp .And (a :: b :: rest) pos) (Nj ta tb):=by
 intro pins s σ H Q I h
 refine BoolOp_and (bT (ha pins s σ H _ I h) fun v s1 ⟨x,H1,I1,r1,q1⟩=>?_)
 obtain ⟨c,rfl,q1⟩:=q1
 cases r1
 refine wpAny_truthy_bool ?_
 cases c with
 | true=>exact hb pins s1 σ H1 Q I1 q1
 | false=>exact ⟨.bl false,H1,I1,rfl,q1⟩
theorem Nl (ha:PE X a ta) (hb:PE X (.BoolOp .Or (b :: rest) pos) tb):PE X (.BoolOp .Or (a :: b :: rest) pos) (RZ ta tb):=by
 intro pins s σ H Q I h
 refine BoolOp_or (bT (ha pins s σ H _ I h) fun v s1 ⟨x,H1,I1,r1,q1⟩=>?_)
 obtain ⟨c,rfl,q1⟩:=q1
 cases r1
 refine wpAny_truthy_bool ?_
 cases c with
 | false=>exact hb pins s1 σ H1 Q I1 q1
 | true=>exact ⟨.bl true,H1,I1,rfl,q1⟩
theorem Jn (ha:PE X a ta):PE X (.UnaryOp .Not a pos) (Nk ta):=by
 intro pins s σ H Q I h
 refine UnaryOp_ (bT (ha pins s σ H _ I h) fun v s1 ⟨x,H1,I1,r1,q1⟩=>?_)
 obtain ⟨c,rfl,q1⟩:=q1
 cases r1
 exact not_of (wpAny_truthy_bool ⟨.bl (!c),H1,I1,rfl,q1⟩)
end
def eI (K:PySem.W.Frag) (H:Hp) (a:Addr) (xs:List V):Prop :=
 Rd H a (.lst xs) ∨
  ∃ (o:Obj) (aK:Array Value) (n:Nat),K.lookup a=some o∧o.cls = .type "list"∧o.dict=none∧o.data = .seq aK n∧aK.size≤sizeLine∧Vals xs aK.toList
def dw (K:PySem.W.Frag) (H:Hp) (a:Addr) (xs:List V):Prop :=
 Rd H a (.tup xs) ∨
  ∃ (o:Obj) (aK:Array Value) (n:Nat),K.lookup a=some o∧o.cls = .type "tuple"∧o.data = .seq aK n∧aK.size≤sizeLine∧Vals xs aK.toList
def R0:Value→Option V
 | .none=>some .bh
 | .bool b=>some (.bl b)
 | .int i _=>some (.int i)
 | .str x _=>some (.str x)
 | .bytes b _=>some (.U7 b)
 | .float b _=>some (.U8 b)
 | .ref a=>some (.ref a)
 | .type n=>some (.ty n)
 | _=>none
theorem RelV.abs {x:V} {u:Value} (r:RelV x u):R0 u=some x:=by
 cases x with
 | bh=>cases r; rfl
 | bl _=>cases r; rfl
 | ref _=>cases r; rfl
 | ty _=>cases r; rfl
 | _=>obtain ⟨t,rfl⟩:=r; rfl
theorem RelV.inj {x y:V} {u:Value} (r:RelV x u) (q:RelV y u):x=y:=Option.some.inj (r.abs.symm.trans q.abs)
theorem Vals.inj:∀ {xs ys:List V} {us:List Value},Vals xs us→Vals ys us→xs=ys
 | _,_,_,.nil,.nil=>rfl
 | _,_,_,.cons r t,.cons r' t'=>by rw [r.inj r',Vals.inj t t']
section
variable {X:Cx} {pins:List (Addr×Obj)} {σ:St} {H:Hp} {s:Shared} {a:Addr} {xs ys:List V}
theorem eI.of {K:PySem.W.Frag} (h:H a=some (.lst xs)):eI K H a xs:=.inl (.inl h)
theorem dw.of {K:PySem.W.Frag} (h:H a=some (.tup xs)):dw K H a xs:=.inl (.inl h)
theorem Inv.list (I:Inv X pins σ H s) (h:eI X.K H a xs):∃ aK:List Value,Vals xs aK∧PlainL s.heap a aK.toArray∧xs.length≤sizeLine:=by
 rcases h with h | ⟨o,aK,n,hk,hc,hd,hs,hz,r⟩
 · obtain ⟨z,aK,n,r,e⟩:=h.ok I.bC
   exact ⟨aK,r,⟨_,n,e,rfl,rfl,rfl⟩,z⟩
 · refine ⟨aK.toList,r,⟨o,n,I.la a o hk,hc,hd,by simpa using hs⟩,?_⟩
   have e:=r.length
   simp only [Mo] at e
   omega
theorem Inv.tuple (I:Inv X pins σ H s) (h:dw X.K H a xs):∃ aK:List Value,Vals xs aK∧IsTup s.heap a aK.toArray∧xs.length≤sizeLine:=by
 rcases h with h | ⟨o,aK,n,hk,hc,hs,hz,r⟩
 · obtain ⟨z,aK,r,p⟩:=h.ok I.bC
   exact ⟨aK,r,p,z⟩
 · refine ⟨aK.toList,r,⟨o,I.la a o hk,hc,n,by simpa using hs⟩,?_⟩
   have e:=r.length
   simp only [Mo] at e
   omega
theorem Inv.kg (I:Inv X pins σ H s) (h:eI X.K H a xs) (h':eI X.K H a ys):xs=ys:=by
 obtain ⟨aK,r,⟨o,n,e,_,_,d⟩,_⟩:=I.list h
 obtain ⟨its',r',⟨o',n',e',_,_,d'⟩,_⟩:=I.list h'
 rw [e] at e'; cases e'
 rw [d] at d'
 injection d' with d1 _
 have:aK=its':=by simpa using congrArg Array.toList d1
 subst this
 exact r.inj r'
theorem Inv.lb (I:Inv X pins σ H s) (h:dw X.K H a xs) (h':dw X.K H a ys):xs=ys:=by
 obtain ⟨aK,r,⟨o,e,_,n,d⟩,_⟩:=I.tuple h
 obtain ⟨its',r',⟨o',e',_,n',d'⟩,_⟩:=I.tuple h'
 rw [e] at e'; cases e'
 rw [d] at d'
 injection d' with d1 _
 have:aK=its':=by simpa using congrArg Array.toList d1
 subst this
 exact r.inj r'
end
abbrev Cx.iE (X:Cx) (E:Value→Shared→Prop):Cx:={ X with xe:=E }
abbrev Cx.ni (X:Cx):Cx:=X.iE fun _ _=>False
theorem Cx.Ok.iE {X:Cx} (ok:X.Ok) (E:Value→Shared→Prop):(X.iE E).Ok :=
 ⟨ok.mod,ok.kind,ok.glob,ok.blt,ok.above,ok.inj,ok.has,ok.Mv,ok.hd,ok.frames,ok.Nd,ok.RP,ok.bs,ok.Ba,ok.zd,ok.Bp,ok.kf,ok.EM⟩
theorem Cx.Ok.fL {X:Cx} {E:Value→Shared→Prop} (ok:(X.iE E).Ok):X.Ok :=
 ⟨ok.mod,ok.kind,ok.glob,ok.blt,ok.above,ok.inj,ok.has,ok.Mv,ok.hd,ok.frames,ok.Nd,ok.RP,ok.bs,ok.Ba,ok.zd,ok.Bp,ok.kf,ok.EM⟩
section
variable {X:Cx} {pins:List (Addr×Obj)} {σ:St} {H:Hp} {s:Shared} {E:Value→Shared→Prop}
theorem Inv.iE (I:Inv X pins σ H s) (E:Value→Shared→Prop):Inv (X.iE E) pins σ H s:=⟨I.ok.iE E,I.os,I.bare,I.base,I.loc,I.cell,I.free,I.d7,I.pin,I.bC,I.len⟩
theorem Inv.fL (I:Inv (X.iE E) pins σ H s):Inv X pins σ H s:=⟨I.ok.fL,I.os,I.bare,I.base,I.loc,I.cell,I.free,I.d7,I.pin,I.bC,I.len⟩
theorem SP.fL {D:Ends} {f:Flow} {s':Shared} (h:SP (X.iE E) pins D f s'):SP X pins D f s':=by
 cases f with
 | ret u=>obtain ⟨v,σ',H',I,r,q⟩:=h; exact ⟨v,σ',H',I.fL,r,q⟩
 | _=>obtain ⟨σ',H',I,q⟩:=h; exact ⟨σ',H',I.fL,q⟩
theorem PE.ni {e:Expr} {t:TE} (h:PE X.ni e t):PE X e t:=fun pins s σ H Q I hw =>
 wpAny_mono (h pins s σ H Q (I.iE _) hw) (fun _ _ ⟨v,H',I',r,q⟩=>⟨v,H',I'.fL,r,q⟩) fun _ _ z=>False.elim z
theorem PT.ni {e:Expr} {t:TT} (h:PT X.ni e t):PT X e t:=fun pins s σ H Q I hw =>
 wpAny_mono (h pins s σ H Q (I.iE _) hw) (fun _ _ ⟨H',I',q⟩=>⟨H',I'.fL,q⟩) fun _ _ z=>False.elim z
theorem nh.ni {st:List Stmt} {t:TS} (h:nh X.ni st t):nh X st t:=fun pins s σ H D I hw =>
 wpAny_mono (h pins s σ H D (I.iE _) hw) (fun _ _ q=>q.fL) fun _ _ z=>False.elim z
end
section
variable {X:Cx} {st:Stmt} {rest:List Stmt} {t u:TS} {e:Expr} {te:TE} {pos:Pos}
def Nm:TS:=fun D σ H=>D.nx σ H
def R3 (t u:TS):TS:=fun D σ H=>t { D with nx:=u D } σ H
theorem ER:nh X [] Nm:=fun _ _ σ H _ I h=>wpAny_execs_nil ⟨σ,H,I,h⟩
theorem nN (h1:PS X st t) (h2:nh X rest u):nh X (st :: rest) (R3 t u):=by
 intro pins s σ H D I h
 refine wpAny_execs_cons (bT (h1 pins s σ H { D with nx:=u D } I h) fun f s1 q=>?_)
 cases f with
 | next =>
   obtain ⟨σ',H',I',q⟩:=q
   exact h2 pins s1 σ' H' D I' q
 | ret v=>exact q
 | _=>exact q
theorem rT (h1:PS X st t):nh X [st] t:=by
 intro pins s σ H D I h
 refine wpAny_execs_cons (bT (h1 pins s σ H D I h) fun f s1 q=>?_)
 cases f with
 | next=>exact wpAny_execs_nil q
 | ret v=>exact q
 | _=>exact q
theorem Inv.quiet {pins:List (Addr×Obj)} {σ:St} {H:Hp} {s:Shared} (I:Inv X pins σ H s):interactive X.env=false:=by simp [interactive,I.ok.kind]
def Nn (te:TE):TS:=fun D σ H=>te σ H fun _ H1=>D.nx σ H1
theorem nq (he:PE X e te) (hs:swapsWith e none pos.line X.env=pure false:=by rfl):PS X (.Expr e pos) (Nn te):=by
 intro pins s σ H D I h
 exact wpAny_Expr_any (bT (he pins s σ H _ I h) fun v s1 ⟨x,H1,I1,r1,q1⟩=>⟨σ,H1,I1,q1⟩) I.quiet hs
def R4 (te:TE):TS:=fun D σ H=>te σ H D.rt
theorem Jo (he:PE X e te):PS X (.Return (some e) pos) (R4 te):=by
 intro pins s σ H D I h
 exact wpAny_Return_some (bT (he pins s σ H _ I h) fun v s1 ⟨x,H1,I1,r1,q1⟩=>⟨x,σ,H1,I1,r1,q1⟩)
def R5 (c:TT) (t u:TS):TS:=fun D σ H=>c σ H fun b H1=>if b=true then t D σ H1 else u D σ H1
theorem Np {c:Expr} {a b:List Stmt} {tc:TT} (hc:PT X c tc) (ha:nh X a t) (hb:nh X b u):PS X (.If c a b pos) (R5 tc t u):=by
 intro pins s σ H D I h
 refine wpAny_If (bT (hc pins s σ H _ I h) fun d s1 ⟨H1,I1,q1⟩=>?_)
 cases d with
 | true=>exact ha pins s1 σ H1 D I1 q1
 | false=>exact hb pins s1 σ H1 D I1 q1
end
abbrev TG:=V→St→Hp→(St→Hp→Prop)→Prop
abbrev ES:=List V→St→Hp→(St→Hp→Prop)→Prop
def PG (X:Cx) (target:Expr) (t:TG):Prop :=
 ∀ (pins:List (Addr×Obj)) (s:Shared) (σ:St) (H:Hp) (v:V) (u:Value) (Q:St→Hp→Prop),Inv X pins σ H s→RelV v u→t v σ H Q →
  wpAny (model X.prog X.w) X.A (assign target X.env u) (fun _ s'=>∃ σ' H',Inv X pins σ' H' s'∧Q σ' H') X.xe s
def Bt (X:Cx) (ts:List Expr) (t:ES):Prop :=
 ∀ (pins:List (Addr×Obj)) (s:Shared) (σ:St) (H:Hp) (vs:List V) (us:List Value) (Q:St→Hp→Prop),Inv X pins σ H s→Vals vs us→t vs σ H Q →
  wpAny (model X.prog X.w) X.A (assignInOrder ((assignEach ts X.env).map (·.2)) us) (fun _ s'=>∃ σ' H',Inv X pins σ' H' s'∧Q σ' H') X.xe s
abbrev Jp:=V→V→V→Hp→(Hp→Prop)→Prop
def Nq (X:Cx) (t:Jp):Prop :=
 ∀ (pins:List (Addr×Obj)) (s:Shared) (σ:St) (H:Hp) (o i v:V) (ov iv u:Value) (Q:Hp→Prop),Inv X pins σ H s→RelV o ov→RelV i iv→RelV v u→t o i v H Q →
  wpAny (model X.prog X.w) X.A (setItem ov iv u) (fun _ s'=>∃ H',Inv X pins σ H' s'∧Q H') X.xe s
abbrev R6:=V→V→Hp→VK→Prop
def Wl (X:Cx) (op:Operator) (t:R6):Prop :=
 ∀ (pins:List (Addr×Obj)) (s:Shared) (σ:St) (H:Hp) (x y:V) (v u:Value) (Q:VK),Inv X pins σ H s→RelV x v→RelV y u→t x y H Q →
  wpAny (model X.prog X.w) X.A (inplaceOp op v u) (EP X pins σ Q) X.xe s
section
variable {X:Cx} {pos:Pos}
def ig (i:Nat):TG:=fun v σ H Q=>Q (σ.set i (some v)) H
theorem ET {i:Nat} {x:Str} (hN:X.N.Nodup) (hi:X.N[i]?=some x) (hx:Loc X.env.scope x) (hf:X.fn x=true∨X.env.scope.names.lookup x=some .local:=by first | exact .inl rfl | exact .inr rfl | assumption):PG X (.Name x pos) (ig i):=by
 intro pins s σ H v u Q I r h
 exact wpAny_assign_Name (iD I hN hi hx r (fun s' I'=>⟨_,H,I',h⟩) hf)
def R7:ES:=fun vs σ H Q=>vs=[]∧Q σ H
def Nr (t:TG) (u:ES):ES:=fun vs σ H Q=>∃ v r,vs=v :: r∧t v σ H fun σ' H'=>u r σ' H' Q
theorem EU:Bt X [] R7:=by
 intro pins s σ H vs us Q I r h
 obtain ⟨e,h⟩:=h
 subst e
 cases r
 exact assignInOrder_nil ⟨σ,H,I,h⟩
theorem Bu {e:Expr} {es:List Expr} {t:TG} {u:ES} (h1:PG X e t) (h2:Bt X es u)
  (hs:(assignEach (e :: es) X.env).map (·.2)=assign e X.env :: (assignEach es X.env).map (·.2):=by rfl):Bt X (e :: es) (Nr t u):=by
 intro pins s σ H vs us Q I r h
 obtain ⟨v,vr,e1,h⟩:=h
 subst e1
 cases r with
 | cons r rr =>
   rw [hs]
   refine assignInOrder_cons (bT (h1 pins s σ H _ _ _ I r h) fun _ s1 ⟨σ1,H1,I1,q1⟩=>?_)
   exact h2 pins s1 σ1 H1 _ _ Q I1 rr q1
def R8 (K:PySem.W.Frag) (n:Nat) (t:ES):TG:=fun v σ H Q=>∃ a xs,v = .ref a∧dw K H a xs∧xs.length=n∧t xs σ H Q
theorem Jq {es:List Expr} {k:Nat} {t:ES} {n:Nat} (hc:X.calm=true) (h:Bt X es t)
  (hn:(assignEach es X.env).length=n:=by rfl) (EV:(assignEach es X.env).findIdx? (·.1)=none:=by rfl):PG X (.Tuple es k pos) (R8 X.K n t):=by
 intro pins s σ H v u Q I r hw
 obtain ⟨a,xs,e1,hq,hl,hw⟩:=hw
 subst e1
 cases r
 obtain ⟨aK,rv,ht,hz⟩:=I.tuple hq
 refine assign_Tuple_tuple (I.ok.hd hc) ht (by simp [hn,← hl,rv.length]) EV fun h' hx=>?_
 have I1:Inv X pins σ H { s with heap:=h' }:=I.kept (t':=s.toks) fun b o e=>hx b o (gF (dq e)) e
 exact h pins _ σ H xs _ Q I1 (by simpa using rv) hw
def R9 (to ti:TE) (t:Jp):TG:=fun v σ H Q=>to σ H fun o H1=>ti σ H1 fun i H2=>t o i v H2 fun H3=>Q σ H3
theorem Jr {o i:Expr} {to ti:TE} {t:Jp} (ho:PE X o to) (hi:PE X i ti) (hs:Nq X t)
  (ha:∀ v,assign (.Subscript o i pos) X.env v=(do
    let ov ← holding [v] (eval o X.env)
    let iv ← holding [v,ov] (eval i X.env)
    standAt pos
    holding [v,ov,iv] (setItem ov iv v)
    release [v,ov,iv] []):=by intro _; rfl):PG X (.Subscript o i pos) (R9 to ti t):=by
 intro pins s σ H v u Q I r h
 rw [ha]
 refine wpAny_bind (wpAny_holding (bT (ho pins s σ H _ I h) fun ov s1 ⟨x,H1,I1,r1,q1⟩=>?_))
 refine wpAny_bind (wpAny_holding (bT (hi pins s1 σ H1 _ I1 q1) fun iv s2 ⟨y,H2,I2,r2,q2⟩=>?_))
 refine wpAny_bind (wpAny_standAt (wpAny_bind (wpAny_holding (bT (hs pins s2 σ H2 x y v ov iv u _ I2 r1 r2 r q2) fun _ s3 ⟨H3,I3,q3⟩=>?_))))
 exact wpAny_release ⟨σ,H3,I3,q3⟩
def EW (te:TE) (g:TG):TS:=fun D σ H=>te σ H fun x H1=>g x σ H1 D.nx
theorem Bv {tg e:Expr} {te:TE} {g:TG} (he:PE X e te) (hg:PG X tg g) (hs:swapsWithSole [tg] e pos.line X.env=pure false:=by rfl) (hw:swappedStores [tg] e X.env=pure none:=by rfl)
  (h1:(assignEach [tg] X.env).map (·.2)=[assign tg X.env]:=by rfl):PS X (.Assign [tg] e pos) (EW te g):=by
 intro pins s σ H D I h
 refine wpAny_Assign_stores (bT (he pins s σ H _ I h) fun v s1 ⟨x,H1,I1,r1,q1⟩=>?_) hs hw
 rw [h1]
 exact bT (hg pins s1 σ H1 x v _ I1 r1 q1) fun _ s2 q=>q
theorem vS {i:Nat} {x:Str} {e:Expr} {te:TE} {pos':Pos} (hN:X.N.Nodup) (hi:X.N[i]?=some x) (hx:Loc X.env.scope x) (he:PE X e te) (hs:swapsWith e (some (.Name x pos')) pos.line X.env=pure false:=by rfl) (hf:X.fn x=true∨X.env.scope.names.lookup x=some .local:=by first | exact .inl rfl | exact .inr rfl | assumption) :
  PS X (.Assign [.Name x pos'] e pos) (EW te (ig i)):=by
 intro pins s σ H D I h
 refine wpAny_Assign_Name (bT (he pins s σ H _ I h) fun v s1 ⟨y,H1,I1,r1,q1⟩=>?_) hs
 exact iD I1 hN hi hx r1 (fun s2 I2=>⟨_,H1,I2,q1⟩) hf
def R_ (i:Nat) (te:TE) (ti:R6):TS:=fun D σ H=>∃ x,σ[i]?=some (some x)∧te σ H fun y H1=>ti x y H1 fun z H2=>D.nx (σ.set i (some z)) H2
theorem Js {i:Nat} {x:Str} {e:Expr} {te:TE} {op:Operator} {ti:R6} {pos':Pos} (hN:X.N.Nodup) (hi:X.N[i]?=some x) (hx:Loc X.env.scope x) (he:PE X e te) (ho:Wl X op ti) (hf:X.fn x=true∨X.env.scope.names.lookup x=some .local:=by first | exact .inl rfl | exact .inr rfl | assumption) :
  PS X (.AugAssign (.Name x pos') op e pos) (R_ i te ti):=by
 intro pins s σ H D I h
 obtain ⟨v,e1,h⟩:=h
 obtain ⟨m,hn,hl⟩:=I.loc
 have Wm:rR X.env.scope x:=by rcases hx with k | k; exact .inl k; exact .inr (.inl k)
 obtain ⟨u,r,l⟩:=hl i x v hi e1 Wm
 refine wpAny_AugAssign_Name ?_
 have go:wpAny (model X.prog X.w) X.A (eval e X.env) (fun w s₂=>wpAny (model X.prog X.w) X.A (inplaceOp op u w) (fun r s₃=>wpAny (model X.prog X.w) X.A (storeName X.env x r) (fun _=>SP X pins D .next) X.xe s₃) X.xe s₂) X.xe s:=by
  refine bT (he pins s σ H _ I h) fun w s1 ⟨y,H1,I1,r1,q1⟩=>?_
  refine bT (ho pins s1 σ H1 v y u w _ I1 r r1 q1) fun z s2 ⟨zv,H2,I2,r2,q2⟩=>?_
  exact iD I2 hN hi hx r2 (fun s3 I3=>⟨_,H2,I3,q2⟩) hf
 rcases l with ⟨hk,hm⟩ | ⟨hk,c,hc,ya⟩
 · exact wpAny_loadName_local I.ok.kind hk hn hm go
 · rcases hk with hk | hk
   · exact wpAny_loadName_cell I.ok.kind hk hc ya go
   · rcases hx with k | k
     · have:X.env.scope.names.lookup x=some .free:=hk
       rw [k] at this; cases this
     · have:X.env.scope.names.lookup x=some .free:=hk
       rw [k] at this; cases this
end
section
variable {X:Cx} {pos:Pos}
end
structure It where
 go:Nat→Hp→Prop
 Mw:Nat→Hp→V→Hp→Prop
 stop:Nat→Hp→Prop
def lg (X:Cx) (pins:List (Addr×Obj)) (H:Hp) (b:Addr):Prop :=
 H b=none∧b≠X.env.locals∧b∉X.fs∧(b∈X.ex∨X.s₀.heap.objs.size≤b)∧(∀ x c,X.env.cells.lookup x=some c→c≠b)∧∀ p∈X.pn ++ pins,p.1≠b
theorem Inv.qc {X:Cx} {pins:List (Addr×Obj)} {σ:St} {H H':Hp} {s:Shared} {b:Addr} (I:Inv X pins σ H s) (hb:s.heap.objs.size≤b) (hn:H' b=none):lg X pins H' b:=by
 refine ⟨hn,A_ (m_ I.lt hb),I.RQ hb,.inr (mD I.sz hb),fun x c e z=>?_,fun p hp z=>?_⟩
 · obtain ⟨v,q⟩:=I.cell x c e
   exact absurd (m_ q.lt (by rw [z]; exact hb)) (Ej _)
 · exact absurd (m_ (dq (I.pin p hp).1) (by rw [z]; exact hb)) (Ej _)
structure Turn (P:Program) (w:World) (K:PySem.W.Frag) (tg:Expr) (J:It) (fp:List Addr) (it:Addr) (tn:Nat→Heap→Prop):Prop where
 mem:it∈fp
 obj:∀ i h,tn i h→∀ b∈fp,∃ o,h.get? b=some o∧∀ v,o.data≠.cell v
 keep:∀ i h h',tn i h→(∀ b∈fp,∀ o,h.get? b=some o→h'.get? b=some o)→tn i h'
 item:∀ (X:Cx),X.prog=P→X.w=w→X.K=K→X.calm=true→∀ (i:Nat) (pins:List (Addr×Obj)) (s:Shared) (σ:St) (H:Hp) (E:Value→Shared→Prop),Inv X pins σ H s→(∀ b∈fp,lg X pins H b)→tn i s.heap→J.go i H →
  wpAny (model P w) X.A (pyNext (.ref it)) (fun r s1=>∃ u,r=some u ∧
   wpAny (model P w) X.A (letOwnedTupleGo tg (.ref it) u) (fun _ s2=>∃ x H',Inv X pins σ H' s2∧RelV x u∧J.Mw i H x H'∧tn (i+1) s2.heap∧∀ b∈fp,H' b=none) E s1) E s
 done:∀ (X:Cx),X.prog=P→X.w=w→X.K=K→X.calm=true→∀ (i:Nat) (pins:List (Addr×Obj)) (s:Shared) (σ:St) (H:Hp) (E:Value→Shared→Prop),Inv X pins σ H s→(∀ b∈fp,lg X pins H b)→tn i s.heap→J.stop i H →
  wpAny (model P w) X.A (pyNext (.ref it)) (fun r s1=>r=none∧Inv X pins σ H s1) E s
 self:∀ (A:Around) (i:Nat) (s:Shared) (Q:Value→Shared→Prop) (E:Value→Shared→Prop),tn i s.heap→Q (.ref it) s→wpAny (model P w) A (pyIter (.ref it)) Q E s
abbrev TI:=St→Hp→(It→Hp→Prop)→Prop
def Vc (X:Cx) (pins:List (Addr×Obj)) (σ:St) (tg:Expr) (R:It→Hp→Prop) (QO:Value) (s2:Shared):Prop :=
 ∃ (it:Addr) (fp:List Addr) (tn:Nat→Heap→Prop) (J:It) (H':Hp),QO = .ref it∧Inv X pins σ H' s2∧Turn X.prog X.w X.K tg J fp it tn∧tn 0 s2.heap∧(∀ b∈fp,lg X pins H' b)∧R J H'
def PI (X:Cx) (tg iter:Expr) (wi:TI):Prop :=
 ∀ (pins:List (Addr×Obj)) (s:Shared) (σ:St) (H:Hp) (R:It→Hp→Prop),Inv X pins σ H s→wi σ H R →
  wpAny (model X.prog X.w) X.A (eval iter X.env) (fun v s1=>wpAny (model X.prog X.w) X.A (pyIter v) (Vc X pins σ tg R) X.xe s1) X.xe s
theorem yb {M:Model} {A:Around} {E:Value→Shared→Prop} {s:Shared} {tg:Expr} {it:Addr} {u:Value} {o:Obj} {n:String} {vs:Array Value} {Q:Unit→Shared→Prop} (ho:s.heap.get? it=some o) (hc:o.cls = .type n) (hd:o.data = .fields vs)
  (hn:["enumerate","zip","dict_itemiterator","dict_reverseitemiterator","odict_iterator","itertools.zip_longest","itertools.pairwise"].contains n=false) (hQ:Q () s):wpAny M A (letOwnedTupleGo tg (.ref it) u) Q E s:=by
 unfold letOwnedTupleGo
 cases tg <;> first
  | exact wpAny_pure hQ
  | (cases u <;> first
      | exact wpAny_pure hQ
      | (refine wpAny_bind (wpAny_load ho ?_)
         rw [hc,hd]
         show wpAny M A (if (["enumerate","zip","dict_itemiterator","dict_reverseitemiterator","odict_iterator","itertools.zip_longest","itertools.pairwise"].contains n && vs[0]? == some (rawInt _))=true then _ else _) Q E s
         rw [if_neg (by intro h; rw [hn,Hx] at h; cases h)]
         exact wpAny_pure hQ))
def R' (K:PySem.W.Frag) (a:Addr):It :=
 ⟨fun i H=>∃ xs x,eI K H a xs∧xs[i]?=some x,fun i H x H'=>H'=H∧∀ xs,eI K H a xs→xs[i]?=some x,fun i H=>∃ xs,eI K H a xs∧xs.length≤i⟩
def Sa (K:PySem.W.Frag) (a:Addr):It :=
 ⟨fun i H=>∃ xs x,dw K H a xs∧xs[i]?=some x,fun i H x H'=>H'=H∧∀ xs,dw K H a xs→xs[i]?=some x,fun i H=>∃ xs,dw K H a xs∧xs.length≤i⟩
def QP (lo:Int) (n:Nat):It:=⟨fun i _=>i < n,fun i H x H'=>H'=H∧x = .int (lo+i),fun i _=>n≤i⟩
theorem ze {P:Program} {w:World} {K:PySem.W.Frag} {tg:Expr} (a it:Addr):Turn P w K tg (R' K a) [it] it (fun i h=>h.IsListIter it a i) where
 mem:=by simp
 obj:=fun i h st b hb=>by
  have e:b=it:=by simpa using hb
  subst e
  obtain ⟨o,e,c,d⟩:=st
  exact ⟨o,e,fun v z=>by rw [d] at z; cases z⟩
 keep:=fun i h h' st k=>st.at fun o e=>k it (by simp) o e
 item:=by
  intro X hP hw hK hc i pins s σ H E I hf st hg
  subst hP hw hK
  obtain ⟨xs,x,hq,hx⟩:=hg
  obtain ⟨aK,rv,p,hz⟩:=I.list hq
  obtain ⟨u,hu,ru⟩:=rv.get hx
  obtain ⟨f0,f1,f2,f3,f4,f5⟩:=hf it (by simp)
  refine wpAny_pyNext_list_item st p.isList (x:=u) (by simpa using hu) fun h' vT sb=>?_
  have I1:Inv X pins σ H { s with heap:=h' }:=I.turned (t':=s.toks) (fun b o hb e=>(sb.2 b hb).trans e) f0 f1 f3 f4 f5
  obtain ⟨o,e,c,d⟩:=id vT
  exact ⟨u,rfl,yb (s:={ s with heap:=h' }) e c d (by decide) ⟨x,H,I1,ru,⟨rfl,fun ys hy=>by rw [I.kg hy hq]; exact hx⟩,vT,fun b hb=>(hf b hb).1⟩⟩
 done:=by
  intro X hP hw hK hc i pins s σ H E I hf st hg
  subst hP hw hK
  obtain ⟨xs,hq,hx⟩:=hg
  obtain ⟨aK,rv,p,hz⟩:=I.list hq
  obtain ⟨f0,f1,f2,f3,f4,f5⟩:=hf it (by simp)
  have hl:=rv.length
  exact wpAny_pyNext_list_end (I.ok.hd hc) st p.isList (by simp; omega) fun h' eb=>⟨rfl,I.turned (t':=s.toks) (fun b o hb e=>eb b o hb e) f0 f1 f3 f4 f5⟩
 self:=fun _ _ _ _ _ st h=>wpAny_pyIter_listiter st h
theorem vU {P:Program} {w:World} {K:PySem.W.Frag} {tg:Expr} (a it:Addr):Turn P w K tg (Sa K a) [it] it (fun i h=>h.IsTupleIter it a i) where
 mem:=by simp
 obj:=fun i h st b hb=>by
  have e:b=it:=by simpa using hb
  subst e
  obtain ⟨o,e,c,d⟩:=st
  exact ⟨o,e,fun v z=>by rw [d] at z; cases z⟩
 keep:=fun i h h' st k=>st.at fun o e=>k it (by simp) o e
 item:=by
  intro X hP hw hK hc i pins s σ H E I hf st hg
  subst hP hw hK
  obtain ⟨xs,x,hq,hx⟩:=hg
  obtain ⟨aK,rv,p,hz⟩:=I.tuple hq
  obtain ⟨u,hu,ru⟩:=rv.get hx
  obtain ⟨f0,f1,f2,f3,f4,f5⟩:=hf it (by simp)
  refine wpAny_pyNext_tuple_item st (show s.heap.IsTuple a aK.toArray from p) (x:=u) (by simpa using hu) fun h' vT sb=>?_
  have I1:Inv X pins σ H { s with heap:=h' }:=I.turned (t':=s.toks) (fun b o hb e=>(sb.2 b hb).trans e) f0 f1 f3 f4 f5
  obtain ⟨o,e,c,d⟩:=id vT
  exact ⟨u,rfl,yb (s:={ s with heap:=h' }) e c d (by decide) ⟨x,H,I1,ru,⟨rfl,fun ys hy=>by rw [I.lb hy hq]; exact hx⟩,vT,fun b hb=>(hf b hb).1⟩⟩
 done:=by
  intro X hP hw hK hc i pins s σ H E I hf st hg
  subst hP hw hK
  obtain ⟨xs,hq,hx⟩:=hg
  obtain ⟨aK,rv,p,hz⟩:=I.tuple hq
  obtain ⟨f0,f1,f2,f3,f4,f5⟩:=hf it (by simp)
  have hl:=rv.length
  exact wpAny_pyNext_tuple_end (I.ok.hd hc) st (show s.heap.IsTuple a aK.toArray from p) (by simp; omega) fun h' eb=>⟨rfl,I.turned (t':=s.toks) (fun b o hb e=>eb b o hb e) f0 f1 f3 f4 f5⟩
 self:=fun _ _ _ _ _ st h=>wpAny_pyIter_tupleiter st h
theorem vV {P:Program} {w:World} {K:PySem.W.Frag} {tg:Expr} (it:Addr) (lo:Int) (n:Nat):Turn P w K tg (QP lo n) [it] it (fun i h=>IsRangeIter h it (lo+(i:Nat) * 1) ((n:Int) - (i:Nat)) 1) where
 mem:=by simp
 obj:=fun i h st b hb=>by
  have e:b=it:=by simpa using hb
  subst e
  exact ⟨_,st,fun v z=>by
   have z':Data.fields _=Data.cell v:=z
   cases z'⟩
 keep:=fun i h h' st k=>k it (by simp) _ st
 item:=by
  intro X hP hw hK hc i pins s σ H E I hf st hg
  subst hP hw hK
  obtain ⟨f0,f1,f2,f3,f4,f5⟩:=hf it (by simp)
  have W:=Walks.range (prog:=X.prog) (w:=X.w) (I.ok.hd hc) it lo 1 n
  refine W.item i s _ _ hg st fun v h' tk hv vT kk=>?_
  obtain ⟨t,rfl⟩:=hv
  have I1:Inv X pins σ H { s with heap:=h',toks:=tk }:=I.turned (fun b o hb e=>kk b o (by simpa using hb) e) f0 f1 f3 f4 f5
  refine ⟨_,rfl,yb (s:={ s with heap:=h',toks:=tk }) (n:="range_iterator") vT rfl rfl (by decide) ⟨.int (lo+i),H,I1,⟨t,?_⟩,⟨rfl,rfl⟩,vT,fun b hb=>(hf b hb).1⟩⟩
  rw [Int.mul_one]
 done:=by
  intro X hP hw hK hc i pins s σ H E I hf st hg
  subst hP hw hK
  obtain ⟨f0,f1,f2,f3,f4,f5⟩:=hf it (by simp)
  exact wpAny_pyNext_range_end (I.ok.hd hc) st (by have:n≤i:=hg; omega) fun h' eb=>⟨rfl,I.turned (t':=s.toks) (fun b o hb e=>eb b o hb e) f0 f1 f3 f4 f5⟩
 self:=fun _ _ _ _ _ st h=>wpAny_pyIter_rangeiter st h
section
variable {X:Cx} {tg:Expr}
theorem Bw {pins:List (Addr×Obj)} {σ:St} {H:Hp} {s:Shared} {R:It→Hp→Prop} {E:Value→Shared→Prop} {lo hi:Int} {t u v:Tok} {tk:Nat} (I:Inv X pins σ H s) (h1 : -(2 ^ 62)≤lo) (h2:lo < 2 ^ 62) (h3 : -(2 ^ 62)≤hi) (h4:hi < 2 ^ 62)
  (q:R (QP lo (hi - lo).toNat) H):wpAny (model X.prog X.w) X.A (pyIter (.ref s.heap.objs.size)) (Vc X pins σ tg R) E { s with heap:=s.heap.push { cls:=.type "range",data:=.fields #[.int lo t,.int hi u,.int 1 v] },toks:=tk }:=by
 refine wpAny_pyIter_range (IsRange.new ..) (small_one h1 h2 h3 h4) ?_
 have I1:Inv X pins σ H { s with heap:=s.heap.push { cls:=.type "range",data:=.fields #[.int lo t,.int hi u,.int 1 v] },toks:=tk }:=I.kept fun b o e=>cY _ e
 refine ⟨(s.heap.push { cls:=.type "range",data:=.fields #[.int lo t,.int hi u,.int 1 v] }).objs.size,[(s.heap.push { cls:=.type "range",data:=.fields #[.int lo t,.int hi u,.int 1 v] }).objs.size],_,_,H,rfl,
  I1.kept (t':=tk) fun b o e=>cY _ e,vV _ lo (hi - lo).toNat,?_,fun b hb=>?_,q⟩
 · have e1:lo+((0:Nat):Int) * 1=lo:=by simp
   have e2:(((hi - lo).toNat:Nat):Int) - ((0:Nat):Int)=Builtin.Range.rangeSize lo hi 1:=by rw [rangeSize_one]; split <;> omega
   show IsRangeIter _ _ (lo+((0:Nat):Int) * 1) ((((hi - lo).toNat:Nat):Int) - ((0:Nat):Int)) 1
   rw [e1,e2]
   exact m9 _ rfl
 · have e:b=(s.heap.push { cls:=.type "range",data:=.fields #[.int lo t,.int hi u,.int 1 v] }).objs.size:=by simpa using hb
   subst e
   exact I1.qc (du _) (I1.bC.fresh (du _))
def Nt (ta:TA):TI:=fun σ H R=>ta σ H fun vs H1=>∃ j:Int,vs=[.int j]∧-(2 ^ 62)≤j∧j < 2 ^ 62∧R (QP 0 j.toNat) H1
theorem zf {a:Expr} {ta:TA} {p pos:Pos} (hg:Gl X "range") (hm:X.mg "range" = none) (ha:PA X [a] ta) (hs:starEach [a] X.env=[(false,eval a X.env)]:=by rfl):PI X tg (.Call (.Name "range" p) [a] [] pos) (Nt ta):=by
 intro pins s σ H R I h
 refine Call_ (jL I hg hm boot_range (Qz (bT (ha pos pins s σ H _ I h) fun us s1 ⟨vs,H1,I1,r1,q1⟩=>?_) hs rfl))
 obtain ⟨j,e,q1,q2,q⟩:=q1
 subst e
 cases r1 with
 | cons r rr =>
   cases rr
   obtain ⟨t,rfl⟩:=r
   exact call_range_1 (Bw I1 (by omega) (by omega) q1 q2 (by simpa using q))
def Sb (wi:TI) (g:TG) (tb:TS):TS:=fun D σ H=>wi σ H fun J H1=>∃ W:Nat→Nat→St→Hp→Prop,(∃ m,W 0 m σ H1)∧∀ i m σ H,W i m σ H →
 (J.stop i H∧D.nx σ H)∨(J.go i H∧∃ N:St→Hp→Prop,(∀ σ' H',N σ' H'→∃ m',m' < m∧W (i+1) m' σ' H')∧∀ x H',J.Mw i H x H'→g x σ H' fun σ2 H2=>tb { D with nx:=N,ct:=N,bk:=D.nx } σ2 H2)
def nO (fp:List Addr) (h:Heap):List (Addr×Obj):=fp.filterMap fun b=>(h.get? b).map fun o=>(b,o)
theorem gH {fp:List Addr} {h:Heap} {b:Addr} {o:Obj} (hb:b∈fp) (e:h.get? b=some o):(b,o)∈nO fp h:=List.mem_filterMap.mpr ⟨b,hb,by rw [e]; rfl⟩
theorem zg {fp:List Addr} {h:Heap} {p:Addr×Obj} (hp:p∈nO fp h):p.1∈fp∧h.get? p.1=some p.2:=by
 obtain ⟨b,hb,e⟩:=List.mem_filterMap.mp hp
 cases q:h.get? b with
 | none=>rw [q] at e; cases e
 | some o =>
   rw [q] at e
   have e':(b,o)=p:=Option.some.inj e
   subst e'
   exact ⟨hb,q⟩
theorem Inv.pinned {pins:List (Addr×Obj)} {σ:St} {H:Hp} {s:Shared} {fp:List Addr} (I:Inv X pins σ H s) (hf:∀ b∈fp,lg X pins H b) (ho:∀ b∈fp,∃ o,s.heap.get? b=some o∧∀ v,o.data≠.cell v):Inv X (pins ++ nO fp s.heap) σ H s :=
 I.x9 fun p hp=>(jA.mp hp).elim (fun z=>I.pin p (k8 _ z)) fun z=>by
  obtain ⟨hb,e⟩:=zg z
  obtain ⟨f0,f1,f2,_⟩:=hf p.1 hb
  obtain ⟨o,e',d⟩:=ho p.1 hb
  rw [e] at e'; cases e'
  exact ⟨e,f0,f1,f2,d⟩
theorem Inv.kh {pins pl:List (Addr×Obj)} {σ:St} {H:Hp} {s:Shared} (I:Inv X (pins ++ pl) σ H s):Inv X pins σ H s:=I.x9 fun p hp=>I.pin p (k8 _ (mz _ hp))
theorem Jt {iter:Expr} {body:List Stmt} {wi:TI} {g:TG} {tb:TS} {pos:Pos} (hp:PassesOwn (model X.prog X.w) X.A X.env X.xe) (hc:X.calm=true) (hi:PI X tg iter wi) (hg:PG X tg g) (hb:nh X body tb)
  (hs:∀ x,foldedSetIterable iter X.env x=pure x:=by intro _; rfl):PS X (.For tg iter body [] pos) (Sb wi g tb):=by
 intro pins s σ H D I h
 refine wpAny_For (bT (hi pins s σ H _ I h) fun v s1 h1=>bT h1 fun QO s2 h2=>?_) hs
 obtain ⟨it,fp,tn,J,H2,e,I2,T,Bb,f2,W,⟨m0,w0⟩,turn⟩:=h2
 subst e
 have Ju:∀ {H':Hp},(∀ b∈fp,H' b=none)→∀ b∈fp,lg X pins H' b:=fun hn b hb=>⟨hn b hb,(f2 b hb).2⟩
 refine codeAny_forLoop_any (fun n s'=>∃ i σ' H',Inv X pins σ' H' s'∧tn i s'.heap∧(∀ b∈fp,H' b=none)∧W i n σ' H') ?_ m0 ⟨0,σ,H2,I2,Bb,fun b hb=>(f2 b hb).1,w0⟩
 rintro n s3 ⟨i,σ3,H3,I3,Nu,Nv,w3⟩
 rcases turn i n σ3 H3 w3 with ⟨stop,qn⟩ | ⟨go,N,hN,step⟩
 · refine wpAny_passesOwn hp (bT (T.done X rfl rfl rfl hc i pins s3 σ3 H3 X.xe I3 (Ju Nv) Nu stop) fun r s4 ⟨hr,I4⟩=>?_)
   subst hr
   exact wpAny_execs_nil ⟨σ3,H3,I4,qn⟩
 · refine wpAny_passesOwn hp (bT (T.item X rfl rfl rfl hc i pins s3 σ3 H3 X.xe I3 (Ju Nv) Nu go) fun r s4 ⟨u,hr,h4⟩=>?_)
   subst hr
   refine wpAny_passesOwn hp (bT h4 fun _ s5 ⟨x,H5,I5,r5,y5,Jv,Sd⟩=>?_)
   have Wn:=I5.pinned (Ju Sd) (T.obj _ _ Jv)
   refine wpAny_passesOwn hp (bT (hg _ s5 σ3 H5 x u _ Wn r5 (step x H5 y5)) fun _ s6 ⟨σ6,H6,I6,q6⟩=>?_)
   refine wpAny_passesOwn hp (bT (hb _ s6 σ6 H6 _ I6 q6) fun f s7 q7=>?_)
   have again:∀ {σ7:St} {H7:Hp},Inv X (pins ++ nO fp s5.heap) σ7 H7 s7→N σ7 H7→∃ m,m < n∧∃ i σ' H',Inv X pins σ' H' s7∧tn i s7.heap∧(∀ b∈fp,H' b=none)∧W i m σ' H':=fun {σ7 H7} I7 n7=>by
    obtain ⟨m',hm,w7⟩:=hN σ7 H7 n7
    refine ⟨m',hm,i+1,σ7,H7,I7.kh,T.keep _ _ _ Jv fun b hb o e=>(I7.pin (b,o) (k8 _ (k8 _ (gH hb e)))).1,fun b hb=>?_,w7⟩
    obtain ⟨o,e,d⟩:=T.obj _ _ Jv b hb
    exact (I7.pin (b,o) (k8 _ (k8 _ (gH hb e)))).2.1
   cases f with
   | brk=>obtain ⟨σ7,H7,I7,q7⟩:=q7; exact ⟨σ7,H7,I7.kh,q7⟩
   | ret v=>obtain ⟨x7,σ7,H7,I7,r7,q7⟩:=q7; exact ⟨x7,σ7,H7,I7.kh,r7,q7⟩
   | _=>obtain ⟨σ7,H7,I7,n7⟩:=q7; exact again I7 n7
end
abbrev R2:=V→V→Hp→VK→Prop
def dY (X:Cx) (f:Value→Value→Sem Value) (r:R2):Prop :=
 ∀ (pins:List (Addr×Obj)) (s:Shared) (σ:St) (H:Hp) (x y:V) (v u:Value) (Q:VK),Inv X pins σ H s→RelV x v→RelV y u→r x y H Q →
  wpAny (model X.prog X.w) X.A (f v u) (EP X pins σ Q) X.xe s
def Se (X:Cx) (f:Value→Sem Value) (r:V→Hp→VK→Prop):Prop :=
 ∀ (pins:List (Addr×Obj)) (s:Shared) (σ:St) (H:Hp) (x:V) (v:Value) (Q:VK),Inv X pins σ H s→RelV x v→r x H Q →
  wpAny (model X.prog X.w) X.A (f v) (EP X pins σ Q) X.xe s
def cU (X:Cx) (f:Value) (r:List V→Hp→VK→Prop):Prop :=
 ∀ (pins:List (Addr×Obj)) (s:Shared) (σ:St) (H:Hp) (xs:List V) (us:List Value) (Q:VK),Inv X pins σ H s→Vals xs us→r xs H Q →
  wpAny (model X.prog X.w) X.A (call f us) (EP X pins σ Q) X.xe s
def Nw (r:R2) (ta tb:TE):TE:=fun σ H Q=>ta σ H fun x H1=>tb σ H1 fun y H2=>r x y H2 Q
def Wo (r:V→Hp→VK→Prop) (ta:TE):TE:=fun σ H Q=>ta σ H fun x H1=>r x H1 Q
def rI (C:Int→Int→Prop) (g:Int→Int→V):R2:=fun x y H Q=>∃ i j,x = .int i∧y = .int j∧C i j∧Q (g i j) H
def rV (g:Int→Int→V):R2:=fun x y H Q=>∃ i j,x = .int i∧y = .int j∧Q (g i j) H
def rU (g:Int→V):V→Hp→VK→Prop:=fun x H Q=>∃ i,x = .int i∧Q (g i) H
section
variable {X:Cx} {a b c:Expr} {ta tb tc:TE} {pos:Pos}
theorem Jw (ha:PE X a ta) (hb:PE X b tb) {pins:List (Addr×Obj)} {s:Shared} {σ:St} {H:Hp} {R:V→V→Hp→Prop} (I:Inv X pins σ H s)
  (h:ta σ H fun x H1=>tb σ H1 fun y H2=>R x y H2) {Q:Value→Shared→Prop} {f:Value→Value→Sem Value}
  (hf:∀ v u s2 x y H2,Inv X pins σ H2 s2→RelV x v→RelV y u→R x y H2→wpAny (model X.prog X.w) X.A (f v u) Q X.xe s2) :
  wpAny (model X.prog X.w) X.A (eval a X.env) (fun v s₁=>wpAny (model X.prog X.w) X.A (eval b X.env) (fun u s₂=>wpAny (model X.prog X.w) X.A (f v u) Q X.xe s₂) X.xe s₁) X.xe s:=by
 refine bT (ha pins s σ H _ I h) fun v s1 ⟨x,H1,I1,r1,q1⟩=>?_
 refine bT (hb pins s1 σ H1 _ I1 q1) fun u s2 ⟨y,H2,I2,r2,q2⟩=>?_
 exact hf v u s2 x y H2 I2 r1 r2 q2
theorem Nx {op:Operator} {r:R2} (ho:dY X (binaryOp op) r) (ha:PE X a ta) (hb:PE X b tb):PE X (.BinOp a op b pos) (Nw r ta tb):=by
 intro pins s σ H Q I h
 exact wpAny_BinOp (Jw ha hb I h fun v u s2 x y H2 I2 rx ry q=>ho pins s2 σ H2 x y v u Q I2 rx ry q)
theorem Ny {op:UnaryOp} {r:V→Hp→VK→Prop} (ho:Se X (unaryOp op) r) (ha:PE X a ta):PE X (.UnaryOp op a pos) (Wo r ta):=by
 intro pins s σ H Q I h
 exact UnaryOp_ (bT (ha pins s σ H _ I h) fun v s1 ⟨x,H1,I1,r1,q1⟩=>ho pins s1 σ H1 x v Q I1 r1 q1)
theorem QQ {f:Value→Value→Sem Value} {C:Int→Int→Prop} {g:Int→Int→Int}
  (rule:∀ (i j:Int) (t u:Tok) (s:Shared) (Q:Value→Shared→Prop) (E:Value→Shared→Prop),C i j→Q (.int (g i j) s.toks) { s with toks:=s.toks+1 }→wpAny (model X.prog X.w) X.A (f (.int i t) (.int j u)) Q E s) :
  dY X f (rI C fun i j=>.int (g i j)):=by
 intro pins s σ H x y v u Q I rx ry h
 obtain ⟨i,j,rfl,rfl,hc,q⟩:=h
 obtain ⟨t,rfl⟩:=rx
 obtain ⟨t',rfl⟩:=ry
 exact rule i j t t' s _ _ hc ⟨.int (g i j),H,I.tok _,⟨_,rfl⟩,q⟩
theorem Jx {f:Value→Value→Sem Value} {g:Int→Int→Int}
  (rule:∀ (i j:Int) (t u:Tok) (s:Shared) (Q:Value→Shared→Prop) (E:Value→Shared→Prop),Q (.int (g i j) s.toks) { s with toks:=s.toks+1 }→wpAny (model X.prog X.w) X.A (f (.int i t) (.int j u)) Q E s) :
  dY X f (rV fun i j=>.int (g i j)):=by
 intro pins s σ H x y v u Q I rx ry h
 obtain ⟨i,j,rfl,rfl,q⟩:=h
 obtain ⟨t,rfl⟩:=rx
 obtain ⟨t',rfl⟩:=ry
 exact rule i j t t' s _ _ ⟨.int (g i j),H,I.tok _,⟨_,rfl⟩,q⟩
theorem Jy {f:Value→Value→Sem Value} {g:Int→Int→Bool}
  (rule:∀ (i j:Int) (t u:Tok) (s:Shared) (Q:Value→Shared→Prop) (E:Value→Shared→Prop),Q (.bool (g i j)) s→wpAny (model X.prog X.w) X.A (f (.int i t) (.int j u)) Q E s) :
  dY X f (rV fun i j=>.bl (g i j)):=by
 intro pins s σ H x y v u Q I rx ry h
 obtain ⟨i,j,rfl,rfl,q⟩:=h
 obtain ⟨t,rfl⟩:=rx
 obtain ⟨t',rfl⟩:=ry
 exact rule i j t t' s _ _ ⟨.bl (g i j),H,I,rfl,q⟩
def Nz (i j:Int):Prop:=0 < j∧j < 1073741824
def NA (i j:Int):Prop:=0≤j∧j≤1000000∧i.natAbs < 2 ^ 64
def By (i j:Int):Prop:=(-(2 ^ 64) < i∧i < 2 ^ 64)∨(-(2 ^ 64) < j∧j < 2 ^ 64)
theorem By.ok {i j:Int} (h:By i j):IntMulOk i j:=by
 rcases h with ⟨h1,h2⟩ | ⟨h1,h2⟩
 · exact .of_left (intBits_le_64 h1 h2)
 · exact .of_right (intBits_le_64 h1 h2)
theorem Jz:dY X (binaryOp .Add) (rV fun i j=>.int (i+j)):=Jx fun _ _ _ _ _ _ _ q=>add_int q
theorem JA:dY X (binaryOp .Sub) (rV fun i j=>.int (i - j)):=Jx fun _ _ _ _ _ _ _ q=>sub_int q
theorem JB:dY X (binaryOp .Mult) (rI By fun i j=>.int (i * j)):=QQ fun _ _ _ _ _ _ _ hc q=>mul_int q hc.ok
theorem EY:dY X (binaryOp .FloorDiv) (rI Nz fun i j=>.int (i / j)):=QQ fun i j _ _ _ _ _ hc q=>by
 have h1:(0:Int) < j:=hc.1
 have h2:j < 1073741824:=hc.2
 exact floordiv_int (by omega) (by rw [Int.fdiv_eq_ediv_of_nonneg i (by omega)]; exact q) (.inl (PyProof.noPylong_small (by omega)))
theorem JC:dY X (binaryOp .Mod) (rI (fun _ j=>0 < j) fun i j=>.int (i % j)):=QQ fun i j _ _ _ _ _ hc q=>by
 have h1:(0:Int) < j:=hc
 exact mod_int' (by omega) (by rw [Int.fmod_eq_emod_of_nonneg i (by omega)]; exact q)
theorem JD:dY X (binaryOp .Pow) (rI NA fun i j=>.int (i ^ j.toNat)):=QQ fun _ _ _ _ _ _ _ hc q=>pow_int_small hc.1 hc.2.1 hc.2.2 q
theorem EZ:dY X (inplaceOp .Add) (rV fun i j=>.int (i+j)):=Jx fun _ _ _ _ _ _ _ q=>iadd_int q
theorem Wq {f:Value→Sem Value} {g:Int→Int}
  (rule:∀ (i:Int) (t:Tok) (s:Shared) (Q:Value→Shared→Prop) (E:Value→Shared→Prop),Q (.int (g i) s.toks) { s with toks:=s.toks+1 }→wpAny (model X.prog X.w) X.A (f (.int i t)) Q E s) :
  Se X f (rU fun i=>.int (g i)):=by
 intro pins s σ H x v Q I rx h
 obtain ⟨i,rfl,q⟩:=h
 obtain ⟨t,rfl⟩:=rx
 exact rule i t s _ _ ⟨.int (g i),H,I.tok _,⟨_,rfl⟩,q⟩
theorem JE:Se X (unaryOp .USub) (rU fun i=>.int (-i)):=Wq fun _ _ _ _ _ q=>neg_int q
end
section
variable {X:Cx} {a b c:Expr} {ta tb tc:TE} {pos:Pos}
theorem vW {pins:List (Addr×Obj)} {σ:St} {H:Hp} {s:Shared} {Q:VK} {k k':Bool} (I:Inv X pins σ H s) (q:Q (.bl k) H) (e:k=k'):EP X pins σ Q (.bool k') s:=by
 subst e
 exact ⟨.bl k,H,I,rfl,q⟩
theorem yc:dY X (compareOp .Lt) (rV fun i j=>.bl (decide (i < j))):=Jy fun _ _ _ _ _ _ _ q=>lt_int q
theorem Bz:dY X (compareOp .LtE) (rV fun i j=>.bl (decide (i≤j))):=Jy fun _ _ _ _ _ _ _ q=>le_int q
theorem NB:dY X (compareOp .Gt) (rV fun i j=>.bl (decide (j < i))):=Jy fun _ _ _ _ _ _ _ q=>gt_int q
theorem zh:dY X (compareOp .In) (fun x y H Q=>∃ i j,x = .str i∧y = .str j∧Q (.bl (!(Builtin.Str.occurrences j i 0 j.length 1).isEmpty)) H):=by
 intro pins s σ H x y v u Q I rx ry h
 obtain ⟨i,j,rfl,rfl,q⟩:=h
 obtain ⟨t,rfl⟩:=rx
 obtain ⟨t',rfl⟩:=ry
 exact in_str (vW I q rfl)
theorem JF:dY X (compareOp .Is) (fun x y H Q=>y = .bh∧Q (.bl (decide (x = .bh))) H):=by
 intro pins s σ H x y v u Q I rx ry h
 obtain ⟨rfl,q⟩:=h
 cases ry
 refine is_none_gen (vW I q ?_)
 cases x <;> first
  | (cases rx; rfl)
  | (obtain ⟨t,rfl⟩:=rx; rfl)
theorem E2:dY X (compareOp .IsNot) (fun x y H Q=>y = .bh∧Q (.bl (!decide (x = .bh))) H):=by
 intro pins s σ H x y v u Q I rx ry h
 obtain ⟨rfl,q⟩:=h
 cases ry
 refine isnot_none_gen (vW I q ?_)
 cases x <;> first
  | (cases rx; rfl)
  | (obtain ⟨t,rfl⟩:=rx; rfl)
theorem dY.or {f:Value→Value→Sem Value} {r r':R2} (h:dY X f r) (h':dY X f r'):dY X f (fun x y H Q=>r x y H Q∨r' x y H Q):=by
 intro pins s σ H x y v u Q I rx ry q
 rcases q with q | q
 · exact h pins s σ H x y v u Q I rx ry q
 · exact h' pins s σ H x y v u Q I rx ry q
theorem iF (b:Expr) {op:CmpOp} (h:op≠.In:=by decide) (h2:op≠.NotIn:=by decide):behindInMarks op b=false:=by
 have e1:(op == CmpOp.In)=false:=by cases op <;> first | rfl | exact absurd rfl h
 have e2:(op == CmpOp.NotIn)=false:=by cases op <;> first | rfl | exact absurd rfl h2
 cases b <;> simp [behindInMarks,e1,e2]
theorem E3 {op:CmpOp} {r:R2} (ho:dY X (compareOp op) r) (ha:PE X a ta) (hb:PE X b tb) (hm:behindInMarks op b=false):PE X (.Compare a [op] [b] pos) (Nw r ta tb):=by
 intro pins s σ H Q I h
 exact wpAny_Compare1 (Jw ha hb I h fun v u s2 x y H2 I2 rx ry q=>ho pins s2 σ H2 x y v u Q I2 rx ry q) hm
def HF (t:TE):TT:=fun σ H Q=>t σ H fun x H'=>∃ k,x = .bl k∧Q k H'
theorem E4 {op:CmpOp} {r:R2} (ho:dY X (compareOp op) r) (ha:PE X a ta) (hb:PE X b tb) (hm:behindInMarks op b=false):PT X (.Compare a [op] [b] pos) (HF (Nw r ta tb)):=by
 intro pins s σ H Q I h
 refine wpAny_isTrue_Compare1 (bT (ha pins s σ H _ I h) fun v s1 ⟨x,H1,I1,r1,q1⟩=>bT (hb pins s1 σ H1 _ I1 q1) fun u s2 ⟨y,H2,I2,r2,q2⟩ =>
  bT (ho pins s2 σ H2 x y v u _ I2 r1 r2 q2) fun c s3 ⟨z,H3,I3,r3,k,e,q3⟩=>?_) hm
 subst e
 cases r3
 exact wpAny_truthy_bool ⟨H3,I3,q3⟩
def vX (r r':R2) (ta tb tc:TE):TE:=fun σ H Q=>ta σ H fun x H1=>tb σ H1 fun y H2=>r x y H2 fun z H3=>∃ k,z = .bl k ∧
 (if k=true then tc σ H3 fun w' H4=>r' y w' H4 Q else Q (.bl false) H3)
theorem BA {op vY:CmpOp} {r r':R2} (ho:dY X (compareOp op) r) (vQ:dY X (compareOp vY) r') (ha:PE X a ta) (hb:PE X b tb) (hc:PE X c tc)
  (hm:lastMarks [op,vY] [b,c]=false:=by with_unfolding_all rfl):PE X (.Compare a [op,vY] [b,c] pos) (vX r r' ta tb tc):=by
 intro pins s σ H Q I h
 refine Compare_chain (bT (ha pins s σ H _ I h) fun v s1 ⟨x,H1,I1,r1,q1⟩=>chain_link (bT (hb pins s1 σ H1 _ I1 q1) fun u s2 ⟨y,H2,I2,r2,q2⟩ =>
  bT (ho pins s2 σ H2 x y v u _ I2 r1 r2 q2) fun d s3 ⟨z,H3,I3,r3,k,e,q3⟩=>?_)) hm
 subst e
 cases r3
 refine wpAny_truthy_bool ?_
 cases k with
 | false=>exact ite_ff ⟨.bl false,H3,I3,rfl,q3⟩
 | true=>exact ite_tt (chain_last (bT (hc pins s3 σ H3 _ I3 q3) fun w' s4 ⟨z',H4,I4,r4,q4⟩=>vQ pins s4 σ H4 y z' u w' Q I4 r2 r4 q4))
theorem BB {op vY:CmpOp} {r r':R2} (ho:dY X (compareOp op) r) (vQ:dY X (compareOp vY) r') (ha:PE X a ta) (hb:PE X b tb) (hc:PE X c tc)
  (hm:lastMarks [op,vY] [b,c]=false:=by with_unfolding_all rfl):PT X (.Compare a [op,vY] [b,c] pos) (HF (vX r r' ta tb tc)):=by
 intro pins s σ H Q I h
 refine isTrue_chain (bT (ha pins s σ H _ I h) fun v s1 ⟨x,H1,I1,r1,q1⟩=>test_link (bT (hb pins s1 σ H1 _ I1 q1) fun u s2 ⟨y,H2,I2,r2,q2⟩ =>
  bT (ho pins s2 σ H2 x y v u _ I2 r1 r2 q2) fun d s3 ⟨z,H3,I3,r3,k,e,q3⟩=>?_)) hm
 subst e
 cases r3
 refine wpAny_truthy_bool ?_
 cases k with
 | false =>
   obtain ⟨k',e',q'⟩:=q3
   cases e'
   exact ite_ff ⟨H3,I3,q'⟩
 | true =>
   refine ite_tt (test_last (bT (hc pins s3 σ H3 _ I3 q3) fun w' s4 ⟨z',H4,I4,r4,q4⟩=>bT (vQ pins s4 σ H4 y z' u w' _ I4 r2 r4 q4) fun d' s5 ⟨z2,H5,I5,r5,k2,e2,q5⟩=>?_))
   subst e2
   cases r5
   exact wpAny_truthy_bool ⟨H5,I5,q5⟩
theorem lh:(sizeLine:Nat) < 2 ^ 63:=by rw [sizeLine_eq]; decide
theorem vZ:dY X (binaryOp .Add) (fun x y H Q=>∃ i j,x = .str i∧y = .str j∧i.length+j.length≤sizeLine∧Q (.str (i ++ j)) H):=by
 intro pins s σ H x y v u Q I rx ry h
 obtain ⟨i,j,rfl,rfl,hz,q⟩:=h
 obtain ⟨t,rfl⟩:=rx
 obtain ⟨t',rfl⟩:=ry
 exact add_str (fun t' tk=>⟨.str (i ++ j),H,I.tok _,⟨_,rfl⟩,q⟩) hz
theorem vals1 {x:V} {us:List Value} (r:Vals [x] us):∃ u,us=[u]∧RelV x u:=by
 cases r with
 | cons r1 r2=>cases r2; exact ⟨_,rfl,r1⟩
theorem vals2 {x y:V} {us:List Value} (r:Vals [x,y] us):∃ u w',us=[u,w']∧RelV x u∧RelV y w':=by
 cases r with
 | cons r1 r2 =>
   cases r2 with
   | cons r3 r4=>cases r4; exact ⟨_,_,rfl,r1,r3⟩
end
section
variable {prog:Program} {w:World} {A:Around} {E:Value→Shared→Prop} {s:Shared} {K:PySem.W.Frag} {x dx C f:Addr} {mA:Str→Option Value} {name:Str} {v:Value}
end
theorem jK.some_of {v:V} {o:Option Value} (r:jK (some v) o):∃ u,o=some u∧RelV v u:=by
 cases o with
 | none=>exact (show False from r).elim
 | some u=>exact ⟨u,rfl,r⟩
section
variable {P:Program} {w:World} {H H':Hp} {h h':Heap} {a C dx:Addr} {fs Nc:List (Str×V)}
end
structure Vd (K:PySem.W.Frag) (C:Addr):Prop where
 pg:PySem.W.plainGet K C Str.empty=true
 hd:PySem.W.hasDictIn K C=true
 po:PySem.W.plainOver K C=true
 sa:PySem.W.findIn K (.ref C) "__setattr__" = some (some (.builtin "object.__setattr__"))
theorem Vd.get {K:PySem.W.Frag} {C:Addr} (c:Vd K C) (f:Str):PySem.W.plainGet K C f=true:=c.pg
section
variable {X:Cx} {pins:List (Addr×Obj)} {σ:St} {H:Hp} {s:Shared} {a C dx:Addr} {fs:List (Str×V)} {f:Str} {v:V} {A:Around} {E:Value→Shared→Prop}
theorem Inv.made (I:Inv X pins σ H s):Inv X pins σ (upd (upd H s.heap.objs.size (.own (s.heap.objs.size+1))) (s.heap.objs.size+1) (.ins C s.heap.objs.size []))
  { s with heap:=(s.heap.push PySem.W.emptyDict).push (PySem.W.instObj C s.heap.objs.size) }:=by
 have e1:(s.heap.push PySem.W.emptyDict).get? s.heap.objs.size=some PySem.W.emptyDict:=m9 s.heap rfl
 have e2:((s.heap.push PySem.W.emptyDict).push (PySem.W.instObj C s.heap.objs.size)).get? (s.heap.objs.size+1)=some (PySem.W.instObj C s.heap.objs.size):=by
  have:=m9 (s.heap.push PySem.W.emptyDict) (o:=PySem.W.instObj C s.heap.objs.size) rfl
  rwa [vO] at this
 have e3:(s.heap.push PySem.W.emptyDict).Ns s.heap.objs.size (fun _=>none):=⟨PySem.W.emptyDict,#[],_,e1,rfl,(fun e he=>absurd he (by simp)),fun _=>rfl⟩
 have I1:=I.laid (a:=s.heap.objs.size) (o:=.own (s.heap.objs.size+1)) (h':=s.heap.push PySem.W.emptyDict) (t':=s.toks) (fun b u q=>cY _ q) (du _) ⟨_,e1⟩
 refine I1.laid (a:=s.heap.objs.size+1) (o:=.ins C s.heap.objs.size []) (t':=s.toks) (fun b u q=>cY _ q) (Nat.le_of_eq (vO _ _)) ?_
 have ne:s.heap.objs.size≠s.heap.objs.size+1:=gF (IU _)
 refine ⟨by rw [aH ne,aU],kd _,ne,e2,fun _=>none,(Heap.Ns1.of_empty e3).at fun o q=>cY _ q,fun _=>True.intro,fun y hy=>absurd rfl hy⟩
theorem E5 {prog:Program} {w:World} {env:Env} {e:Expr} {f:Str} {pos:Pos} {s:Shared} {Q:Value→Shared→Prop} (hb:attributeBase e f env (eval e env)=eval e env)
  (h:wpAny (model prog w) A (eval e env) (fun o s₁=>wpAny (model prog w) A (getAttr o f true) Q E s₁) E s):wpAny (model prog w) A (eval (.Attribute e f pos) env) Q E s :=
 Attribute_any_ h (by rw [arm_eval_Attribute,hb])
end
section
variable {X:Cx} {o e value:Expr} {f:Str} {pos pos' qd:Pos} {ta tv:TE}
end
section
variable {X:Cx} {pins:List (Addr×Obj)} {σ:St} {H:Hp} {s:Shared} {A:Around} {E:Value→Shared→Prop} {Q:Value→Shared→Prop} {c:Value} {b:Bool}
end
structure bp (k:Nat) (A:Around):Prop where
 hd:A.handled=none
 dp:A.depth+3 * k+5 < recursionLimit
 un:A.units+16 * k+200 < cLine
theorem bp.mono {j k:Nat} {A:Around} (r:bp k A) (h:j≤k):bp j A:=⟨r.hd,by have:=r.dp; omega,by have:=r.un; omega⟩
theorem bp.deeper {k:Nat} {A:Around} (r:bp (k+1) A) (env:Env):bp k (A.deeper env) :=
 ⟨r.hd,by have:=r.dp; show A.depth+1+3 * k+5 < _; omega,by have:=r.un; show A.units+3+16 * k+200 < _; omega⟩
theorem bp.in1 {k:Nat} {A:Around} (r:bp (k+1) A):bp k A.in1 :=
 ⟨r.hd,by have:=r.dp; show A.depth+3 * k+5 < _; omega,by have:=r.un; show A.units+1+16 * k+200 < _; omega⟩
theorem v3 {A:Around} {C:Addr} {us:List Value} {kw:List (Str×Value)}:(A.under (.builtin "type.__call__" ⟨.ref C :: us,kw⟩)).depth=A.depth+1:=by
 first | rfl | simp [Around.under,Code.weight,Code.isCreation,Code.isGuard,Code.isCaller,Code.frames,Code.isFrame,guardIds]
theorem v5 {A:Around} {C:Addr} {us:List Value} {kw:List (Str×Value)}:(A.under (.builtin "type.__call__" ⟨.ref C :: us,kw⟩)).units=A.units+1:=by
 first | rfl | simp [Around.under,Code.cUnits,Code.frames,Code.isFrame]
theorem bp.make {k:Nat} {A:Around} (r:bp (k+1) A) (C:Addr) (us:List Value) (kw:List (Str×Value)):bp k (A.under (.builtin "type.__call__" ⟨.ref C :: us,kw⟩)) :=
 ⟨r.hd,by have:=r.dp; rw [v3]; omega,by have:=r.un; rw [v5]; omega⟩
theorem bp.depth {k:Nat} {A:Around} (r:bp k A):A.depth < recursionLimit:=by have:=r.dp; omega
theorem bp.units {k:Nat} {A:Around} (r:bp k A):A.units+64 < cLine:=by have:=r.un; omega
def NC:TA:=fun _ H Q=>Q [] H
def HG (ta:TE) (tr:TA):TA:=fun σ H Q=>ta σ H fun x H1=>tr σ H1 fun xs H2=>Q (x :: xs) H2
section
variable {X:Cx} {e:Expr} {es:List Expr} {te:TE} {t:TA} {pos:Pos}
theorem cR:PA X [] NC:=fun _ _ _ _ H Q I h=>Calls.spliced_nil ⟨[],H,I,.nil,h⟩
theorem bu (ha:PE X e te) (hr:PA X es t) (hs:starEach (e :: es) X.env=(false,eval e X.env) :: starEach es X.env:=by rfl):PA X (e :: es) (HG te t):=by
 intro pos pins s σ H Q I h
 rw [hs]
 show wpAny _ _ (spliced ((false,eval e X.env) :: backTo pos (starEach es X.env))) _ _ s
 refine Calls.spliced_cons (bT (ha pins s σ H _ I h) fun u s1 ⟨x,H1,I1,r1,q1⟩=>?_)
 exact bT (hr pos pins s1 σ H1 _ I1 q1) fun us s2 ⟨xs,H2,I2,r2,q2⟩=>⟨x :: xs,H2,I2,.cons r1 r2,q2⟩
def Sf (t:TA):TE:=fun σ H Q=>t σ H fun xs H1=>xs.length≤sizeLine∧∀ p,H1 p=none→Q (.ref p) (upd H1 p (.tup xs))
def Sg (t:TA):TE:=fun σ H Q=>t σ H fun xs H1=>xs.length≤sizeLine∧∀ p,H1 p=none→Q (.ref p) (upd H1 p (.lst xs))
theorem JG {x1} (h:PA X es t):PE X (.Tuple es x1 pos) (Sf t):=by
 intro pins s σ H Q I hq
 refine wpAny_Tuple_spliced (bT (h pos pins s σ H _ I hq) fun us s1 ⟨xs,H1,I1,r,z,q⟩=>⟨by rw [← r.length]; exact z,?_⟩)
 have hf:H1 s1.heap.objs.size=none:=I1.bC.fresh (du _)
 refine ⟨.ref s1.heap.objs.size,upd H1 s1.heap.objs.size (.tup xs),I1.laid (t':=s1.toks) (fun b u e=>cY _ e) (du _) ?_,rfl,q _ hf⟩
 exact ⟨z,us,r,⟨_,m9 _ rfl,rfl,_,rfl⟩⟩
theorem JH (h:PA X es t):PE X (.List es pos) (Sg t):=by
 intro pins s σ H Q I hq
 refine wpAny_List_spliced (bT (h pos pins s σ H _ I hq) fun us s1 ⟨xs,H1,I1,r,z,q⟩=>⟨by rw [← r.length]; exact z,?_⟩)
 have hf:H1 s1.heap.objs.size=none:=I1.bC.fresh (du _)
 refine ⟨.ref s1.heap.objs.size,upd H1 s1.heap.objs.size (.lst xs),I1.laid (t':=s1.toks) (fun b u e=>cY _ e) (du _) ?_,rfl,q _ hf⟩
 exact ⟨z,us,0,r,m9 _ rfl⟩
end
abbrev Sp:=List V→Hp→VK→XK→Prop
abbrev v7:=List Env→Hp→Shared→XK→Value→Shared→Prop
structure qe (P:Program) (w:World) (K:PySem.W.Frag) (mg:Str→Option Value) (base:Heap) (A:Around) (outer:List Env) (s:Shared) (H:Hp):Prop where
 frames:A.frames=some outer
 mod:Mod K mg base
 bs:∀ b o,base.get? b=some o→s.heap.get? b=some o∧H b=none
 Ba:base.objs.size≤s.heap.objs.size
 kf:s.heap.FunFrames base outer
 EM:∀ b∈ke outer,H b=none
 bC:jt P w H s.heap
 bare:AllBare s.gens
def CE (outer:List Env) (P:Program) (w:World) (H:Hp) (s:Shared) (Q:VK) (u:Value) (s':Shared):Prop :=
 ∃ v H',s'.os=s.os∧AllBare s'.gens∧Un (ke outer) [] H H' s.heap s'.heap∧jt P w H' s'.heap∧RelV v u∧Q v H'
def CR (CX:v7) (outer:List Env) (P:Program) (w:World) (H:Hp) (s:Shared) (Q:VK) (E:XK) (r:Result) (s':Shared):Prop :=
 match r with
 | .ok (.ret u)=>CE outer P w H s Q u s'
 | .ok _=>False
 | .error e=>CX outer H s E e s'
structure cD (P:Program) (w:World) (K:PySem.W.Frag) (mg:Str→Option Value) (base:Heap) (CX:v7) (k:Nat) (f:Addr) (fd:FuncData) (ps:List Str) (sp:Sp):Prop where
 len:∀ vs H Q E,sp vs H Q E→vs.length=ps.length
 run:∀ (A:Around) (outer:List Env) (s:Shared) (H:Hp) (args:Args) (us:List Value) (vs:List V) (Q:VK) (E:XK),bp k A→qe P w K mg base A outer s H→BindsTo s fd args (ps.zip us)→Vals vs us→sp vs H Q E →
  codeAny (model P w) A (.call (.ref f) args) (CR CX outer P w H s Q E) s
theorem cD.mono {P:Program} {w:World} {K:PySem.W.Frag} {mg:Str→Option Value} {base:Heap} {CX:v7} {j k:Nat} {f:Addr} {fd:FuncData} {ps:List Str} {sp:Sp} (F:cD P w K mg base CX j f fd ps sp) (h:j≤k) :
 cD P w K mg base CX k f fd ps sp:=⟨F.len,fun A outer s H args us vs Q E hr=>F.run A outer s H args us vs Q E (hr.mono h)⟩
theorem cD.imp {P:Program} {w:World} {K:PySem.W.Frag} {mg:Str→Option Value} {base:Heap} {CX:v7} {k:Nat} {f:Addr} {fd:FuncData} {ps:List Str} {sp Ve:Sp} (F:cD P w K mg base CX k f fd ps sp)
  (h:∀ vs H Q E,Ve vs H Q E→sp vs H Q E):cD P w K mg base CX k f fd ps Ve :=
 ⟨fun vs H Q E q=>F.len vs H Q E (h _ _ _ _ q),fun A outer s H args us vs Q E hr he hb hv hs=>F.run A outer s H args us vs Q E hr he hb hv (h _ _ _ _ hs)⟩
theorem qe.make {P:Program} {w:World} {K:PySem.W.Frag} {mg:Str→Option Value} {base:Heap} {A:Around} {outer:List Env} {s:Shared} {H:Hp} (e:qe P w K mg base A outer s H) (C:Addr) (us:List Value) (kw:List (Str×Value)) :
 qe P w K mg base (A.under (.builtin "type.__call__" ⟨.ref C :: us,kw⟩)) outer s H:=⟨by first | exact e.frames | (simpa [Around.under,Code.envs,Code.isFrame,pushEnvs] using e.frames),e.mod,e.bs,e.Ba,e.kf,e.EM,e.bC,e.bare⟩
theorem qe.in1 {P:Program} {w:World} {K:PySem.W.Frag} {mg:Str→Option Value} {base:Heap} {A:Around} {outer:List Env} {s:Shared} {H:Hp} (e:qe P w K mg base A outer s H) :
 qe P w K mg base A.in1 outer s H:=⟨e.frames,e.mod,e.bs,e.Ba,e.kf,e.EM,e.bC,e.bare⟩
section
variable {X:Cx} {pins:List (Addr×Obj)} {σ:St} {H:Hp} {s s':Shared}
theorem Inv.JI (I:Inv X pins σ H s):qe X.prog X.w X.K X.mg X.base X.A X.stack s H :=
 ⟨I.ok.frames,I.ok.mod,I.bs,mD I.ok.Ba I.sz,I.stack,I.ng,I.bC,I.bare⟩
theorem Inv.after {Q:VK} {u:Value} (I:Inv X pins σ H s) (h:CE X.stack X.prog X.w H s Q u s'):EP X pins σ Q u s':=by
 obtain ⟨v,H',os,bare,un,bC,r,q⟩:=h
 obtain ⟨hh,g,d,t,ND⟩:=s'
 obtain rfl:ND=s.os:=os
 exact ⟨v,H',I.call (h':=hh) (g':=g) (d':=d) (t':=t) (ch:=[]) un bC bare (fun b z=>absurd z (by simp)),r,q⟩
end
def NF (sp:Sp) (E6:List V) (E:XK) (t:TA):TE:=fun σ H Q=>t σ H fun vs H1=>sp (vs ++ E6) H1 Q E
def Binds (K:PySem.W.Frag) (fd:FuncData) (ps:List Str) (ds:List Value):Prop :=
 ∀ (s:Shared) (us:List Value),K.In s.heap→(us ++ ds).length=ps.length→BindsTo s fd ⟨us,[]⟩ (ps.zip (us ++ ds))
theorem Binds.all {K:PySem.W.Frag} {fd:FuncData} {ps:List Str} (h:∀ us:List Value,us.length=ps.length→bindArgs fd ⟨us,[]⟩=pure (ps.zip us)):Binds K fd ps []:=fun s us _ hl=>by
 rw [Eh] at hl ⊢
 exact .of_eq (h us hl)
def Passes (CX:v7) (X:Cx) (E:XK):Prop:=∀ (pins:List (Addr×Obj)) (σ:St) (H:Hp) (s:Shared) (e:Value) (s':Shared),Inv X pins σ H s→CX X.stack H s E e s'→X.xe e s'
section
variable {X:Cx} {CX:v7} {k:Nat} {f C:Addr} {fd:FuncData} {ps:List Str} {sp:Sp} {E6:List V} {ds:List Value} {E:XK} {x m:Str} {p pos apos:Pos} {e o:Expr} {es:List Expr} {ta:TE} {t:TA}
theorem BC {pins:List (Addr×Obj)} {σ:St} {H:Hp} {s:Shared} {Q:VK} {us:List Value} {vs:List V} (F:cD X.prog X.w X.K X.mg X.base CX k f fd ps sp) (hr:bp k X.A) (hb:Binds X.K fd ps ds) (hd:Vals E6 ds) (hx:Passes CX X E)
  (I:Inv X pins σ H s) (r:Vals vs us) (h:sp (vs ++ E6) H Q E):wpAny (model X.prog X.w) X.A (call (.ref f) us) (EP X pins σ Q) X.xe s:=by
 have r2:Vals (vs ++ E6) (us ++ ds):=r.append hd
 have hl:(us ++ ds).length=ps.length:=by rw [← r2.length]; exact F.len _ _ _ _ h
 refine wpAny_call (codeAny_mono (F.run X.A X.stack s H ⟨us,[]⟩ (us ++ ds) (vs ++ E6) Q E hr I.JI (hb s us I.la hl) r2 h) fun r s' hq=>?_)
 cases r with
 | error e=>exact hx pins σ H s e s' I hq
 | ok fl =>
   cases fl with
   | ret u=>exact I.after hq
   | _=>exact False.elim hq
theorem ki (F:cD X.prog X.w X.K X.mg X.base CX k f fd ps sp) (hr:bp k X.A) (hg:Gl X x) (hm:X.mg x=some (.ref f)) (hk:PySem.W.keepIn X.K (.ref f)=true) (hb:Binds X.K fd ps ds) (hd:Vals E6 ds) (hx:Passes CX X E)
  (ha:PA X (e :: es) t) (nP:gg x:=by decide) (he:starEach (e :: es) X.env=(false,eval e X.env) :: starEach es X.env:=by rfl) (fM:(backTo pos (starEach es X.env)).any (·.1)=false:=by rfl) :
  PE X (.Call (.Name x p) (e :: es) [] pos) (NF sp E6 E t):=by
 intro pins s σ H Q I h
 refine wpAny_Call_Name_kw (jd I hg hm ?_ nP)
 refine QH (h₀:=X.base) I.ok.mod.Mu hk (bT (ha pos pins s σ H _ I h) fun us s1 ⟨vs,H1,I1,r,q⟩=>⟨I1.la,?_⟩) he fM
 exact BC F hr hb hd hx I1 r q
structure Mk (K:PySem.W.Frag) (C f:Addr):Prop where
 makes:PySem.W.makesIn K C=true
 init:PySem.W.findIn K (.ref C) "__init__" = some (some (.ref f))
 fn:PySem.W.isFn K (.ref f)=true
 kp:PySem.W.keepIn K (.ref C)=true
end
section
variable {X:Cx} {CX:v7} {k:Nat} {f C:Addr} {fd:FuncData} {ps ks:List Str} {sp:Sp} {E:XK} {x m:Str} {p pos apos Sh:Pos} {e o:Expr} {es:List Expr} {Wr:List Keyword} {te ta:TE} {t tk:TA} {nm:Option Str}
variable {g:List Value→List Value→List Value} {gV:List V→List V→List V}
end
structure aI (N P:List Str) (sc:Scope):Prop where
 kind:sc.kind = .function
 co:sc.isCoroutine=false
 gen:sc.isGenerator=false
 nd:N.Nodup
 pre:N.take P.length=P
 par:∀ x∈P,sc.names.lookup x=some .local∨sc.names.lookup x=some .cell
 JJ:∀ y∈sc.names,y.2≠.free
theorem gI {N P:List Str} {sc:Scope} (a:sc.kind=.function:=by rfl) (b:sc.isCoroutine=false:=by rfl) (c:sc.isGenerator=false:=by rfl) (d:N.Nodup:=by decide +kernel) (e:N.take P.length=P:=by rfl) (f:∀ x∈P,sc.names.lookup x=some .local∨sc.names.lookup x=some .cell:=by decide +kernel) (g:∀ y∈sc.names,y.2≠.free:=by decide +kernel):aI N P sc:=⟨a,b,c,d,e,f,g⟩
theorem qT {kindOf:Str→Option NameKind} {x:Str}:∀ {binds:List (Str×Value)} {m:Str→Option Value},(∀ v,(x,v)∉binds)→bindL kindOf binds m x=m x
 | [],_,_=>rfl
 | (n,v) :: r,m,h=>by
   unfold bindL
   rw [qT fun w hw=>h w (jc _ hw)]
   split
   · have:x≠n:=by rintro rfl; exact h v jz
     simp [this]
   · rfl
theorem qU {kindOf:Str→Option NameKind} {x:Str}:∀ {binds:List (Str×Value)} {m:Str→Option Value},(∀ v,(x,v)∉binds)→bindC kindOf binds m x=m x
 | [],_,_=>rfl
 | (n,v) :: r,m,h=>by
   unfold bindC
   rw [qU fun w hw=>h w (jc _ hw)]
   split
   · rfl
   · have:x≠n:=by rintro rfl; exact h v jz
     simp [this]
theorem qV {kindOf:Str→Option NameKind} {x:Str} {v:Value}:∀ {P:List Str} {vs:List Value} {i:Nat} {m:Str→Option Value},P.Nodup→P[i]?=some x→vs[i]?=some v→kindOf x=some .local →
  bindL kindOf (P.zip vs) m x=some v
 | [],_,_,_,_,h,_,_=>by simp at h
 | _ :: _,[],_,_,_,_,h,_=>by simp at h
 | p :: P,w :: vs,0,m,nd,h1,h2,hk=>by
   simp at h1 h2; subst h1; subst h2
   show bindL kindOf ((p,w) :: P.zip vs) m p=_
   unfold bindL
   rw [qT fun v hv=>(qQ.mp nd).1 (List.of_mem_zip hv).1,if_pos hk]
   simp
 | p :: P,w :: vs,i+1,m,nd,h1,h2,hk=>by
   show bindL kindOf ((p,w) :: P.zip vs) m x=_
   unfold bindL
   exact qV (i:=i) (qQ.mp nd).2 (by simpa using h1) (by simpa using h2) hk
theorem qW {kindOf:Str→Option NameKind} {x:Str} {v:Value}:∀ {P:List Str} {vs:List Value} {i:Nat} {m:Str→Option Value},P.Nodup→P[i]?=some x→vs[i]?=some v→kindOf x≠some .local →
  bindC kindOf (P.zip vs) m x=some v
 | [],_,_,_,_,h,_,_=>by simp at h
 | _ :: _,[],_,_,_,_,h,_=>by simp at h
 | p :: P,w :: vs,0,m,nd,h1,h2,hk=>by
   simp at h1 h2; subst h1; subst h2
   show bindC kindOf ((p,w) :: P.zip vs) m p=_
   unfold bindC
   rw [qU fun v hv=>(qQ.mp nd).1 (List.of_mem_zip hv).1,if_neg hk]
   simp
 | p :: P,w :: vs,i+1,m,nd,h1,h2,hk=>by
   show bindC kindOf ((p,w) :: P.zip vs) m x=_
   unfold bindC
   exact qW (i:=i) (qQ.mp nd).2 (by simpa using h1) (by simpa using h2) hk
def start (N:List Str) (vs:List V):St:=vs.map some ++ List.replicate (N.length - vs.length) none
def dB (CX:v7) (P:Program) (w:World) (K:PySem.W.Frag) (mg:Str→Option Value) (base:Heap) (N:List Str) (qual:Str) (scope:Scope) (f:Addr) (cd:Value) (A:Around) (outer:List Env) (s:Shared) (H:Hp) (E:XK):Cx where
 prog:=P
 w:=w
 K:=K
 mg:=mg
 base:=base
 A:=A.deeper (envOfC qual scope s.heap.objs.size f cd)
 N:=N
 s₀:=s
 H₀:=H
 env:=envOfC qual scope s.heap.objs.size f cd
 outer:=outer
 stack:=envOfC qual scope s.heap.objs.size f cd :: outer
 ex:=[]
 calm:=true
 fn:=fun _=>true
 pn:=[]
 xe:=fun e s'=>wpAny (model P w) (A.deeper (envOfC qual scope s.heap.objs.size f cd)) (leaving (envOfC qual scope s.heap.objs.size f cd) e) (fun _ JK=>CX outer H s E e JK) (fun e' JK=>CX outer H s E e' JK) s'
theorem t_ {sc:Scope} {n:Nat} {x:Str} (h:sc.names.lookup x=some .cell):∃ c,(cellsFrom n sc.names []).lookup x=some c:=by
 have q:=PySem.W.cellsFrom_some sc.names n [] (.inl h)
 exact RC.mp q
theorem zi {CX:v7} {P:Program} {w:World} {K:PySem.W.Frag} {mg:Str→Option Value} {base:Heap} {N ps:List Str} {qual:Str} {scope:Scope} {f:Addr} {cd:Value} {A:Around} {outer:List Env} {s s1:Shared} {H:Hp} {E:XK} {us:List Value} {vs:List V}
  (S:aI N ps scope) (hd:A.handled=none) (e0:qe P w K mg base A outer s H) (hl:vs.length=ps.length) (r:Vals vs us)
  (x:InCallC s s.heap.objs.size (bindL (envOfC qual scope s.heap.objs.size f cd).kindOf (ps.zip us) fun _=>none) (cellsFrom (s.heap.objs.size+1) scope.names []) (bindC (envOfC qual scope s.heap.objs.size f cd).kindOf (ps.zip us) fun _=>none) s1) :
  Inv (dB CX P w K mg base N qual scope f cd A outer s H E) [] (start N vs) H s1:=by
 have fM:ps.length≤N.length:=by have:=congrArg List.length S.pre; rw [EH] at this; omega
 obtain ⟨h1,tk,rfl,hk⟩:=x.done
 have NG:∀ b:Addr,b∉(dB CX P w K mg base N qual scope f cd A outer s H E).ex:=fun b z=>absurd (show b∈([]:List Addr) from z) (by simp)
 refine ⟨⟨e0.mod,S.kind,rfl,rfl,du _,fun y z c h1 h2=>?_,fun y hy=>?_,fun y c _ h=>?_,fun _=>hd,Around.frames_deeper e0.frames,.inr ⟨rfl,rfl⟩,fun b z=>absurd z (NG b),e0.bs,e0.Ba,fun b _ _=>NG b,fun b z=>absurd z (NG b),e0.kf,e0.EM⟩,
  rfl,e0.bare,Un.kept hk,⟨_,x.toInCall.ns,fun i y v h1 h2 h3=>?_⟩,fun y c h=>⟨_,x.cell y c h⟩,e0.bC.fresh (du _),fun y c h=>?_,fun p hp=>absurd (show p∈([]:List (Addr×Obj)) from hp) (by simp),e0.bC.kept hk,?_⟩
 · exact name_of_addr x.apart (Ht h1) (Ht h2)
 · have hy:scope.names.lookup y=some .cell∨scope.names.lookup y=some .free:=hy
   rcases hy with hy | hy
   · exact t_ hy
   · exact absurd rfl (S.JJ _ (Ht hy))
 · exact Nat.le_of_lt (x.above y c (Ht h))
 · have hi:i < vs.length:=by
    unfold start at h2
    by_cases hi:i < vs.length
    · exact hi
    · rw [EE (by simpa using hi)] at h2
      rw [IQ] at h2
      split at h2 <;> cases h2
   have ha:vs[i]?=some v:=by
    unfold start at h2
    rw [vI (by simpa using hi),k9] at h2
    cases e:vs[i]? with
    | none=>rw [e] at h2; cases h2
    | some a=>rw [e] at h2; cases h2; rfl
   obtain ⟨u,hu,rv⟩:=r.get ha
   have hp:ps[i]?=some y:=by
    rw [← S.pre,List.getElem?_take_of_lt (by omega)]; exact h1
   have Vf:ps.Nodup:=by rw [← S.pre]; exact S.nd.sublist (List.take_sublist _ _)
   refine ⟨u,rv,?_⟩
   rcases S.par y (mY hp) with k | k
   · exact .inl ⟨k,qV Vf hp hu k⟩
   · obtain ⟨c,e⟩:=t_ (n:=s.heap.objs.size+1) k
     refine .inr ⟨.inl k,c,e,?_⟩
     have q:=x.cell y c e
     rw [qW Vf hp hu (by show scope.names.lookup y≠_; rw [k]; decide)] at q
     exact q
 · exact e0.bC.fresh (Nat.le_of_lt (x.above y c (Ht h)))
 · unfold start
   show _=N.length
   rw [mf,b_,EF]
   omega
theorem HH {CX:v7} {P:Program} {w:World} {K:PySem.W.Frag} {mg:Str→Option Value} {base:Heap} {k:Nat} {f:Addr} {name qual:Str} {params:Arguments} {body:List Stmt} {scope:Scope} {dV kV doc pm bD ct oc:Value} {an od:Option Addr}
  {yd:Array (Option Value)} {N ps:List Str} {sp:Sp} (lk:K.lookup f=some ⟨oc,od,.func (PySem.W.fnOf name qual params body scope dV kV doc pm an bD ct),yd⟩) (iA:PySem.W.codeIn K bD qual=true) (S:aI N ps scope)
  (len:∀ vs H Q E,sp vs H Q E→vs.length=ps.length)
  (iG:∀ (A:Around) (outer:List Env) (s:Shared) (H:Hp) (vs:List V) (Q:VK) (E:XK),bp k (A.deeper (envOfC qual scope s.heap.objs.size f bD))→sp vs H Q E →
    ∃ t,nh (dB CX P w K mg base N qual scope f bD A outer s H E) body t∧t { nx:=fun _ H'=>Q .bh H',rt:=Q } (start N vs) H) :
  cD P w K mg base CX (k+1) f (PySem.W.fnOf name qual params body scope dV kV doc pm an bD ct) ps sp:=by
 refine ⟨len,fun A outer s H args us vs Q E hr e0 hb r HI=>?_⟩
 have hl:=len _ _ _ _ HI
 have KX:K.In s.heap:=e0.mod.Mu.keeps fun b o e=>(e0.bs b o e).1
 have lim:s.heap.NoLimit:=e0.mod.nolimit.keeps fun b o e=>(e0.bs b o e).1
 have NH:∀ y∈ps.zip us,scope.names.lookup y.1=some .local∨(scope.names.lookup y.1=some .cell∧((cellsFrom (s.heap.objs.size+1) scope.names []).lookup y.1).isSome=true):=fun ⟨n,v⟩ hy=>by
  rcases S.par n (List.of_mem_zip hy).1 with q | q
  · exact .inl q
  · exact .inr ⟨q,PySem.W.cellsFrom_some _ _ _ (.inl q)⟩
 refine codeAny_call_function hr.depth (KX _ _ lk) rfl S.co S.gen rfl (PySem.W.codeRec_of KX iA) (hb _ _ _ _ ?_)
 refine wpAny_newFunctionEnv_cells S.kind NH fun env he s1 x=>?_
 subst he
 refine ⟨lim.keeps x.toInCall.keep,codeAny_func ?_⟩
 obtain ⟨t,ht,hq⟩:=iG A outer s H vs Q E (hr.deeper _) HI
 have I:Inv (dB CX P w K mg base N qual scope f bD A outer s H E) [] (start N vs) H s1:=zi S hr.hd e0 hl r x
 refine wpAny_mono (ht [] s1 (start N vs) H _ I hq) (fun fl s' hs=>?_) fun e s' hs=>hs
 have fin:∀ {σ':St} {H':Hp} {v:V} {u:Value},Inv (dB CX P w K mg base N qual scope f bD A outer s H E) [] σ' H' s'→RelV v u→Q v H'→CE outer P w H s Q u s' :=
  fun {σ' H' v u} J rv q=>⟨v,H',J.os,J.bare,J.base,J.bC,rv,q⟩
 cases fl with
 | ret u =>
   obtain ⟨v,σ',H',J,rv,q⟩:=hs
   exact fin J rv q
 | next =>
   obtain ⟨σ',H',J,q⟩:=hs
   exact fin (v:=V.bh) (u:=Value.none) J rfl q
 | brk =>
   obtain ⟨_,_,_,q⟩:=hs
   exact False.elim q
 | cont =>
   obtain ⟨_,_,_,q⟩:=hs
   exact False.elim q
section
variable {X:Cx} {x:Str} {p pos:Pos} {e:Expr} {es:List Expr} {t:TA} {id T:String} {r:List V→Hp→VK→Prop}
def Vg (r:List V→Hp→VK→Prop) (t:TA):TE:=fun σ H Q=>t σ H fun vs H1=>r vs H1 Q
theorem kj (hc:cU X (.builtin id) r) (hg:Gl X x) (hm:X.mg x=none) (hv:bootBuiltins x=some (.builtin id)) (ha:PA X (e :: es) t) (hn:x≠"__name__":=by decide) (nP:gg x:=by decide)
  (he:starEach (e :: es) X.env=(false,eval e X.env) :: starEach es X.env:=by rfl) (fM:(backTo pos (starEach es X.env)).any (·.1)=false:=by rfl):PE X (.Call (.Name x p) (e :: es) [] pos) (Vg r t):=by
 intro pins s σ H Q I h
 refine wpAny_Call_Name_kw (jL I hg hm hv ?_ hn nP)
 exact PyProof.Rows.callWith_builtin1 (bT (ha pos pins s σ H _ I h) fun us s1 ⟨vs,H1,I1,r1,q1⟩=>hc pins s1 σ H1 vs us Q I1 r1 q1) he fM
theorem qX (hc:cU X (.type T) r) (hg:Gl X x) (hm:X.mg x=none) (hv:bootBuiltins x=some (.type T)) (ha:PA X (e :: es) t) (hn:x≠"__name__":=by decide) (nP:gg x:=by decide)
  (he:starEach (e :: es) X.env=(false,eval e X.env) :: starEach es X.env:=by rfl) (fM:(backTo pos (starEach es X.env)).any (·.1)=false:=by rfl):PE X (.Call (.Name x p) (e :: es) [] pos) (Vg r t):=by
 intro pins s σ H Q I h
 refine wpAny_Call_Name_kw (jL I hg hm hv ?_ hn nP)
 exact Qz (bT (ha pos pins s σ H _ I h) fun us s1 ⟨vs,H1,I1,r1,q1⟩=>hc pins s1 σ H1 vs us Q I1 r1 q1) he fM
end
end L2
namespace HT
open PySem PyProof.Rows
section
open PySem.SeqAt
open PySem.AutoSeq1 (wpAny_loadPart')
open PySem.MeetsSeq PySem.MeetsSeq2 PySem.MeetsSeq3
end
section
variable {prog:Program} {w:World} {A:Around} {E:Value→Shared→Prop} {s:Shared}
theorem E7 {t b:Addr} {vs ws:List Value} {Q:Value→Shared→Prop} (ht:IsTup s.heap t vs.toArray) (hb:IsTup s.heap b ws.toArray) (hv:vs≠[])
  (h1:ws=[]→Q (.ref t) s) (h2:ws≠[]→Q (.ref s.heap.objs.size) { s with heap:=s.heap.push { cls:=.type "tuple",data:=.seq (vs ++ ws).toArray } })
  (pY:vs.length+ws.length≤sizeLine):wpAny (model prog w) A (binaryOp .Add (.ref t) (.ref b)) Q E s:=by
 obtain ⟨⟨cls,dd,data,sl⟩,ho,hc,n,hd⟩:=id ht
 obtain ⟨⟨NI,Mx,data2,ye⟩,Bc,Bd,n2,hd2⟩:=id hb
 simp only at hc hd Bd hd2
 subst hc hd Bd hd2
 have e:vs.toArray ++ ws.toArray=(vs ++ ws).toArray:=by simp
 by_cases hw:ws=[]
 · exact concat_meets ⟨_,ho,rfl⟩ ⟨_,Bc,rfl⟩ noFill_tuple_add seq_tuple_add RI RE (RD _ _)
    (tuple_addW1 t b vs.toArray ws.toArray n n2 dd Mx sl ye (by simpa using hv) (by simp [hw])) ⟨ho,Bc,h1 hw⟩
 · refine concat_meets ⟨_,ho,rfl⟩ ⟨_,Bc,rfl⟩ noFill_tuple_add seq_tuple_add RI RE (RD _ _)
    (tuple_addW2 t b vs.toArray ws.toArray n n2 dd Mx sl ye (by simpa using hv) (by simpa using hw) (by rw [gB,gB]; exact pY)) ⟨ho,Bc,?_⟩
   rw [e]
   exact h2 hw
def cX (n d:Nat):Option Int→Nat
 | none=>d
 | some v=>if v < 0 then (v+(n:Int)).toNat else min v.toNat n
theorem iH (n d:Nat):cX n d none=d:=rfl
theorem km (n d k:Nat):cX n d (some (k:Int))=min k n:=by
 show (if (k:Int) < 0 then ((k:Int)+(n:Int)).toNat else min (k:Int).toNat n)=min k n
 rw [if_neg (by omega),Eg]
theorem JL (n d:Nat) (hd:d≤n) (o:Option Int):cX n d o≤n:=by
 cases o with
 | none=>exact hd
 | some v =>
   show (if v < 0 then (v+(n:Int)).toNat else min v.toNat n)≤n
   by_cases hv:v < 0
   · rw [if_pos hv]; omega
   · rw [if_neg hv]; exact Nat.min_le_right _ _
theorem yf (v:Int) (n d:Nat):(if v < 0 then max (v+(n:Int)) 0 else min v (n:Int))=((cX n d (some v):Nat):Int):=by
 show (if v < 0 then max (v+(n:Int)) 0 else min v (n:Int))=(((if v < 0 then (v+(n:Int)).toNat else min v.toNat n):Nat):Int)
 by_cases hv:v < 0
 · simp only [if_pos hv]; omega
 · simp only [if_neg hv]; omega
theorem v8 (lo hi:Option Int) (n:Nat):Builtin.Slice.sliceAdjust lo hi 1 (n:Int)=(((cX n 0 lo:Nat):Int),((cX n n hi:Nat):Int)):=by
 have h1:¬ ((1:Int) < 0):=by omega
 unfold Builtin.Slice.sliceAdjust
 simp only [h1,if_false]
 refine Prod.ext ?_ ?_
 · cases lo with
   | none=>rfl
   | some v=>exact yf v n 0
 · cases hi with
   | none=>rfl
   | some v=>exact yf v n n
theorem v_ (i j:Nat):Builtin.Slice.slicePlaces (i:Int) (j:Int) 1=j - i:=by
 unfold Builtin.Slice.slicePlaces
 have h1:(1:Int) > 0:=by omega
 simp only [h1,if_true,Int.ediv_one]
 split <;> omega
theorem nQ {v:Value} {o:Option Int} {Q:Option Int→Shared→Prop} (p:IsPart v o) (h:Q o s):wpAny (model prog w) A (Builtin.Slice.slicePartIndex v) Q E s:=by
 cases p with
 | none=>exact slicePart_none h
 | int i t=>exact slicePart_int h
theorem lj {sl:Addr} {vl vu:Value} {lo hi:Option Int} {n:Nat} {Q:Int×Int×Nat→Shared→Prop} (hs:s.heap.IsSliceOf sl vl vu .none) (pl:IsPart vl lo) (pu:IsPart vu hi)
  (h:Q (((cX n 0 lo:Nat):Int),1,cX n n hi - cX n 0 lo) s):wpAny (model prog w) A (Builtin.Slice.sliceApplied (.ref sl) (pure (n:Int))) Q E s:=by
 obtain ⟨os,NJ,Vh,QR⟩:=id hs
 unfold Builtin.Slice.sliceApplied Builtin.Slice.sliceFields
 refine wpAny_bind (wpAny_bind (wpAny_field NJ QR (x:=vl) rfl (wpAny_bind (wpAny_field NJ QR (x:=vu) rfl (wpAny_bind (wpAny_field NJ QR (x:=.none) rfl (wpAny_pure ?_)))))))
 refine wpAny_bind (slicePart_none ?_)
 show wpAny _ _ (if ((1:Int) == 0)=true then _ else _) _ _ s
 rw [if_neg (by decide)]
 refine wpAny_bind (nQ pl (wpAny_bind (nQ pu (wpAny_bind (wpAny_pure ?_)))))
 show wpAny _ _ (match Builtin.Slice.sliceAdjust lo hi 1 (n:Int) with | (lo,hi)=>pure (lo,(1:Int),Builtin.Slice.slicePlaces lo hi 1)) _ _ s
 rw [v8 lo hi n]
 show wpAny _ _ (pure (((cX n 0 lo:Nat):Int),(1:Int),Builtin.Slice.slicePlaces ((cX n 0 lo:Nat):Int) ((cX n n hi:Nat):Int) 1)) _ _ s
 rw [v_]
 exact wpAny_pure h
theorem BD (xs:Array Value) (i k:Nat):((List.range k).filterMap fun (m:Nat)=>xs[((i:Int)+(m:Int) * 1).toNat]?).toArray=((xs.toList.drop i).take k).toArray:=by
 have e:(fun (m:Nat)=>xs[((i:Int)+(m:Int) * 1).toNat]?)=fun m=>xs[i+m]?:=by
  funext m
  have:((i:Int)+(m:Int) * 1).toNat=i+m:=by omega
  rw [this]
 rw [e]
 have:=pick_run xs i k
 rw [List.filterMap_map] at this
 have e2:((fun x=>xs[x]?) ∘ fun x=>i+x)=fun m=>xs[i+m]?:=rfl
 rw [e2] at this
 rw [this]
theorem kn {t sl:Addr} {items:Array Value} {vl vu:Value} {lo hi:Option Int} {Q:Value→Shared→Prop} (ht:IsTup s.heap t items) (hs:s.heap.IsSliceOf sl vl vu .none) (pl:IsPart vl lo) (pu:IsPart vu hi)
  (hw:¬ (cX items.size 0 lo=0∧cX items.size items.size hi=items.size))
  (h:Q (.ref s.heap.objs.size) { s with heap:=s.heap.push { cls:=.type "tuple",data:=.seq ((items.toList.drop (cX items.size 0 lo)).take (cX items.size items.size hi - cX items.size 0 lo)).toArray } })
  (pY:items.size≤sizeLine):wpAny (model prog w) A (getItem (.ref t) (.ref sl)) Q E s:=by
 have yg:sizeOk (.seq ((items.toList.drop (cX items.size 0 lo)).take (cX items.size items.size hi - cX items.size 0 lo)).toArray):=by
  show ((items.toList.drop (cX items.size 0 lo)).take (cX items.size items.size hi - cX items.size 0 lo)).toArray.size≤sizeLine
  rw [gB,EH,IV,Mo]
  omega
 have hj:cX items.size items.size hi≤items.size:=JL _ _ (du _) hi
 obtain ⟨os,NJ,Vh,QR⟩:=id hs
 have Ws:s.TypeIs (.ref sl) "slice":=⟨os,NJ,Vh⟩
 unfold getItem
 try with_reducible refine wpAny_holding ?_
 first | refine wpAny_bind (wpAny_pure ?_) | skip
 refine wpAny_bind (wpAny_sequenceKey ht.typeIs (by decide) ?_)
 refine wpAny_bind (wpAny_callSpecial?_slot (name:=Str.ofString "__getitem__") ht.typeIs Rx
  (wpAny_call_entry Rx ht.typeIs entry_tuple_getitem ?_ (args_tuple_getitem _ _)))
 show wpAny _ _ (Builtin.Tuple.tupleItemsOf (.ref t) >>= _) _ _ s
 refine wpAny_bind (tupleItemsOf_ ht ?_)
 refine wpAny_bind (wpAny_typeOf Ws ?_)
 rw [if_pos (by decide)]
 refine wpAny_bind (lj hs pl pu ?_)
 have JM:¬ ((((cX items.size 0 lo:Nat):Int) == 0 && (1:Int) == 1 && (cX items.size items.size hi - cX items.size 0 lo) == items.size)=true):=by
  intro q
  rw [iC,iC] at q
  have q1:((cX items.size 0 lo:Nat):Int)=0:=eq_of_beq q.1.1
  have q2:cX items.size items.size hi - cX items.size 0 lo=items.size:=eq_of_beq q.2
  exact hw ⟨by omega,by omega⟩
 show wpAny _ _ (if (((cX items.size 0 lo:Nat):Int) == 0 && (1:Int) == 1 && (cX items.size items.size hi - cX items.size 0 lo) == items.size)=true then _ else _) _ _ s
 rw [if_neg JM,BD]
 first
  | exact wpAny_bind (m:=Builtin.Tuple.tupleExact _) (wpAny_newObj_type (wpAny_pure ⟨_,rfl,wpAny_pure h⟩) yg)
  | exact wpAny_bind (m:=Builtin.Tuple.tupleExact _) (wpAny_newObj_type (wpAny_bind (wpAny_pure (wpAny_pure ⟨_,rfl,wpAny_pure h⟩))) yg)
  | exact wpAny_bind (wpAny_bind (m:=Builtin.Tuple.tupleExact _) (wpAny_newObj_type (wpAny_pure (wpAny_pure ⟨_,rfl,wpAny_pure h⟩)) yg))
  | exact wpAny_bind (wpAny_bind (m:=Builtin.Tuple.tupleExact _) (wpAny_newObj_type (wpAny_pure ⟨_,rfl,wpAny_pure h⟩) yg))
end
end HT
namespace L2
open PySem PySem.Spec PyProof.Rows
abbrev TO:=St→Hp→(Option Int→Hp→Prop)→Prop
def PO (X:Cx) (e:Option Expr) (t:TO):Prop :=
 ∀ (pins:List (Addr×Obj)) (s:Shared) (σ:St) (H:Hp) (Q:Option Int→Hp→Prop),Inv X pins σ H s→t σ H Q →
  wpAny (model X.prog X.w) X.A (evalPart e X.env) (fun u s'=>∃ o H',Inv X pins σ H' s'∧IsPart u o∧Q o H') X.xe s
def E8:TO:=fun _ H Q=>Q none H
def NK (t:TE):TO:=fun σ H Q=>t σ H fun x H1=>∃ i,x = .int i∧Q (some i) H1
theorem intsAre_of {ns:List Int}:∀ {us:List Value},Vals (ns.map V.int) us→IntsAre us ns:=by
 induction ns with
 | nil=>intro us r; rw [Hy] at r; cases r; exact .nil
 | cons n ns ih =>
   intro us r
   rw [jr] at r
   cases r with
   | cons r1 r2 =>
     obtain ⟨t,e⟩:=r1
     subst e
     exact .cons n t (ih r2)
section
variable {X:Cx} {e:Expr} {te:TE} {lo hi:Option Expr} {tl th:TO} {pos p2:Pos}
theorem E9:PO X none E8:=by
 intro pins s σ H Q I h
 rw [evalPart_none]
 exact wpAny_pure ⟨none,H,I,.none,h⟩
theorem E_ (h:PE X e te):PO X (some e) (NK te):=by
 intro pins s σ H Q I hw
 rw [evalPart_some]
 refine bT (h pins s σ H _ I hw) fun u s1 ⟨x,H1,I1,r1,q1⟩=>?_
 obtain ⟨i,rfl,q⟩:=q1
 obtain ⟨t,rfl⟩:=r1
 exact ⟨some i,H1,I1,.int i t,q⟩
def BE (X:Cx) (r:V→Option Int→Option Int→Hp→VK→Prop):Prop :=
 ∀ (pins:List (Addr×Obj)) (s:Shared) (σ:St) (H:Hp) (x:V) (v vl vu:Value) (lo hi:Option Int) (sl:Addr) (Q:VK),Inv X pins σ H s→RelV x v→s.heap.IsSliceOf sl vl vu .none→IsPart vl lo→IsPart vu hi→r x lo hi H Q →
  ∃ T id,typeLookup (.type T) "__getitem__" = pure (some (.builtin id))∧s.TypeIs v T∧wpAny (model X.prog X.w) X.A (getItem v (.ref sl)) (EP X pins σ Q) X.xe s
theorem BE.or {r r':V→Option Int→Option Int→Hp→VK→Prop} (h:BE X r) (h':BE X r'):BE X (fun x lo hi H Q=>r x lo hi H Q∨r' x lo hi H Q):=by
 intro pins s σ H x v vl vu lo hi sl Q I rx hs pl pu q
 rcases q with q | q
 · exact h pins s σ H x v vl vu lo hi sl Q I rx hs pl pu q
 · exact h' pins s σ H x v vl vu lo hi sl Q I rx hs pl pu q
def Wt (r:V→Option Int→Option Int→Hp→VK→Prop) (te:TE) (tl th:TO):TE:=fun σ H Q=>te σ H fun x H1=>tl σ H1 fun l H2=>th σ H2 fun u H3=>r x l u H3 Q
theorem BF {r:V→Option Int→Option Int→Hp→VK→Prop} (hr:BE X r) (he:PE X e te) (hl:PO X lo tl) (hu:PO X hi th):PE X (.Subscript e (.Slice lo hi none p2) pos) (Wt r te tl th):=by
 intro pins s σ H Q I h
 refine Subscript_ (bT (he pins s σ H _ I h) fun v s1 ⟨x,H1,I1,r1,q1⟩=>?_)
 refine wpAny_Slice (bT (hl pins s1 σ H1 _ I1 q1) fun vl s2 ⟨l,H2,I2,pl,q2⟩=>bT (hu pins s2 σ H2 _ I2 q2) fun vu s3 ⟨u,H3,I3,pu,q3⟩=>?_)
 rw [evalPart_none]
 refine wpAny_pure ?_
 have I4:Inv X pins σ H3 { s3 with heap:=s3.heap.push { cls:=.type "slice",data:=.fields #[vl,vu,.none] } }:=I3.kept (t':=s3.toks) fun b ob q=>cY _ q
 obtain ⟨T,id,hT,ht,hg⟩:=hr pins { s3 with heap:=s3.heap.push { cls:=.type "slice",data:=.fields #[vl,vu,.none] } } σ H3 x v vl vu l u s3.heap.objs.size Q I4 r1 (Heap.IsSliceOf.new ..) pl pu q3
 show wpAny (model X.prog X.w) X.A (subscriptTail e (.Slice lo hi none p2) v (.ref s3.heap.objs.size)) (EP X pins σ Q) X.xe { s3 with heap:=s3.heap.push { cls:=.type "slice",data:=.fields #[vl,vu,.none] } }
 exact tail_any (ops:=[.ref s3.heap.objs.size,v]) ht hT hg (by with_unfolding_all rfl)
def ua (xs:List V) (lo hi:Option Int):List V:=(xs.drop (HT.cX xs.length 0 lo)).take (HT.cX xs.length xs.length hi - HT.cX xs.length 0 lo)
theorem mh (xs:List V) (lo hi:Option Int):(ua xs lo hi).length≤xs.length:=by
 unfold ua
 rw [EH,IV]
 omega
def NL (K:PySem.W.Frag):V→Option Int→Option Int→Hp→VK→Prop:=fun x lo hi H Q=>∃ a xs,x = .ref a∧dw K H a xs ∧
 ¬ (HT.cX xs.length 0 lo=0∧HT.cX xs.length xs.length hi=xs.length)∧∀ p,H p=none→Q (.ref p) (upd H p (.tup (ua xs lo hi)))
theorem JN:BE X (NL X.K):=by
 intro pins s σ H x v vl vu lo hi sl Q I rx hs pl pu h
 obtain ⟨a,xs,rfl,hx,hw,q⟩:=h
 cases rx
 obtain ⟨aK,r,ht,hz⟩:=I.tuple hx
 have hlen:aK.toArray.size=xs.length:=by rw [gB]; exact r.length.symm
 refine ⟨"tuple",_,Rx.lookup,ht.typeIs,?_⟩
 refine HT.kn ht hs pl pu (by rw [hlen]; exact hw) ?_ (by rw [hlen]; exact hz)
 rw [hlen]
 refine ⟨.ref s.heap.objs.size,_,I.laid (t':=s.toks) (o:=.tup (ua xs lo hi)) (fun b ob q=>cY _ q) (du _) ?_,rfl,q _ (I.bC.fresh (du _))⟩
 exact ⟨mD (mh xs lo hi) hz,_,(r.drop (HT.cX xs.length 0 lo)).take (HT.cX xs.length xs.length hi - HT.cX xs.length 0 lo),IsTup.new _ _⟩
theorem Vals.ny {xs:List V} {us:List Value} (r:Vals xs us):us=[]↔xs=[]:=by
 cases r with
 | _=>simp
end
def vK (n:Nat) (i:Int):Option Nat:=if 0≤i then (if i < n then some i.toNat else none) else if -(n:Int)≤i then some (i+n).toNat else none
def ju {α:Type} (xs:List α) (i:Int):Option α:=(vK xs.length i).bind fun j=>xs[j]?
theorem yh {n:Nat} {i:Int} {j:Nat} (h:vK n i=some j):seqIndex? i n=some j∧j < n∧-(n:Int)≤i∧i < n:=by
 unfold vK at h
 by_cases h0:0≤i
 · rw [if_pos h0] at h
   by_cases h1:i < n
   · rw [if_pos h1] at h
     have e:i.toNat=j:=Option.some.inj h
     exact ⟨by rw [seqIndex_of h0 h1,e],by omega,by omega,h1⟩
   · rw [if_neg h1] at h; cases h
 · rw [if_neg h0] at h
   by_cases h1 : -(n:Int)≤i
   · rw [if_pos h1] at h
     have e:(i+n).toNat=j:=Option.some.inj h
     exact ⟨by rw [seqIndex_neg (by omega) h1,e],by omega,h1,by omega⟩
   · rw [if_neg h1] at h; cases h
theorem rW {α:Type} {xs:List α} {i:Int} {v:α} (h:ju xs i=some v):∃ j,seqIndex? i xs.length=some j∧xs[j]?=some v∧j < xs.length∧-(xs.length:Int)≤i∧i < xs.length:=by
 unfold ju at h
 cases e:vK xs.length i with
 | none=>rw [e] at h; cases h
 | some j =>
   rw [e] at h
   obtain ⟨h1,h2,h3,h4⟩:=yh e
   exact ⟨j,h1,h,h2,h3,h4⟩
theorem au {α:Type} {xs:List α} {j:Nat} {v:α} (h:xs[j]?=some v):ju xs (j:Int)=some v:=by
 have hj:j < xs.length:=(gh.mp h).1
 have e:vK xs.length (j:Int)=some j:=by
  unfold vK
  rw [if_pos (by omega),if_pos (by omega)]; simp
 unfold ju; rw [e]; exact h
theorem nR {α:Type} (xs:List α) (v:α):ju (xs ++ [v]) (-1)=some v:=by
 have hl:(xs ++ [v]).length=xs.length+1:=by simp
 have e:vK (xs ++ [v]).length (-1)=some xs.length:=by
  unfold vK
  rw [hl,if_neg (by decide),if_pos (by omega)]
  congr 1
  omega
 unfold ju
 rw [e]
 show (xs ++ [v])[xs.length]?=some v
 simp
def yi (b:Expr):Prop:=∀ o i,subscripted b false o i=operate [o,i] (getItem o i)
def Fb (X:Cx) (r:R2):Prop :=
 ∀ (value slice:Expr) (pins:List (Addr×Obj)) (s:Shared) (σ:St) (H:Hp) (x y:V) (v u:Value) (Q:VK),Inv X pins σ H s→RelV x v→RelV y u→r x y H Q →
  subscripted slice false v u=operate [v,u] (getItem v u)→wpAny (model X.prog X.w) X.A (subscriptTail value slice v u) (EP X pins σ Q) X.xe s
def Be (X:Cx) (id:String) (r:V→List V→Hp→VK→Prop):Prop :=
 ∀ (pins:List (Addr×Obj)) (s:Shared) (σ:St) (H:Hp) (x:V) (xs:List V) (v:Value) (us:List Value) (Q:VK),Inv X pins σ H s→RelV x v→Vals xs us→r x xs H Q →
  wpAny (model X.prog X.w) X.A (call (.builtin id) (v :: us)) (EP X pins σ Q) X.xe s
section
variable {X:Cx} {a b:Expr} {ta tb:TE} {pos:Pos}
theorem Fb.or {r r':R2} (h:Fb X r) (h':Fb X r'):Fb X (fun x y H Q=>r x y H Q∨r' x y H Q):=by
 intro value slice pins s σ H x y v u Q I rx ry q hs
 rcases q with q | q
 · exact h value slice pins s σ H x y v u Q I rx ry q hs
 · exact h' value slice pins s σ H x y v u Q I rx ry q hs
theorem Be.or {id:String} {r r':V→List V→Hp→VK→Prop} (h:Be X id r) (h':Be X id r'):Be X id (fun x xs H Q=>r x xs H Q∨r' x xs H Q):=by
 intro pins s σ H x xs v us Q I rx rs q
 rcases q with q | q
 · exact h pins s σ H x xs v us Q I rx rs q
 · exact h' pins s σ H x xs v us Q I rx rs q
theorem NM {r:R2} (hr:Fb X r) (ha:PE X a ta) (hb:PE X b tb) (hs:yi b):PE X (.Subscript a b pos) (Nw r ta tb):=by
 intro pins s σ H Q I h
 exact Subscript_ (Jw ha hb I h fun v u s2 x y H2 I2 rx ry q=>hr a b pins s2 σ H2 x y v u Q I2 rx ry q (hs _ _))
def NN (K:PySem.W.Frag):R2:=fun x y H Q=>∃ p xs i v,x = .ref p∧y = .int i∧eI K H p xs∧ju xs i=some v∧Q v H
def NO (K:PySem.W.Frag):R2:=fun x y H Q=>∃ p xs i v,x = .ref p∧y = .int i∧dw K H p xs∧ju xs i=some v∧Q v H
def NP:R2:=fun x y H Q=>∃ z i c,x = .str z∧y = .int i∧z.length≤sizeLine∧ju z.cps.toList i=some c∧Q (.str ⟨#[c]⟩) H
theorem Fc:Fb X (NN X.K):=by
 intro value slice pins s σ H x y v u Q I rx ry h hs
 obtain ⟨p,xs,i,z,rfl,rfl,hq,he,q⟩:=h
 cases rx
 obtain ⟨t,rfl⟩:=ry
 obtain ⟨aK,r,pl,hz⟩:=I.list hq
 obtain ⟨j,h1,h2,h3,h4,h5⟩:=rW he
 obtain ⟨w,ew,rw'⟩:=r.get h2
 have hl:=r.length
 have hn:=lh
 have fin:EP X pins σ Q w s:=⟨z,H,I,rw',q⟩
 by_cases h0:0≤i
 · have hj:i.toNat=j:=by
    rw [seqIndex_of h0 h5] at h1
    exact Option.some.inj h1
   exact item_listR pl.isList h0 (by omega) (by rw [hj]; simpa using ew) fin hs
 · have hj:(i+(aK.toArray.size:Int)).toNat=j:=by
    rw [seqIndex_neg (by omega) h4] at h1
    rw [gB,← hl]
    exact Option.some.inj h1
   exact subscriptTail_builtinR (x:=w) pl.isList.typeIs slot_list_getitem.lookup
    (wpAny_getItem_list_neg (Q:=fun r s'=>r=w∧EP X pins σ Q r s') pl.isList (by omega) (by rw [gB] <;> omega) (by omega) (by rw [hj]; simpa using ew) ⟨rfl,fin⟩) hs
theorem JO:Fb X (NO X.K):=by
 intro value slice pins s σ H x y v u Q I rx ry h hs
 obtain ⟨p,xs,i,z,rfl,rfl,hq,he,q⟩:=h
 cases rx
 obtain ⟨t,rfl⟩:=ry
 obtain ⟨aK,r,pl,hz⟩:=I.tuple hq
 obtain ⟨j,h1,h2,h3,h4,h5⟩:=rW he
 obtain ⟨w,ew,rw'⟩:=r.get h2
 have hl:=r.length
 have hn:=lh
 have fin:EP X pins σ Q w s:=⟨z,H,I,rw',q⟩
 exact subscriptTail_builtinR (x:=w) pl.typeIs slot_tuple_getitem.lookup
  (getItem_tuple (j:=j) (Q:=fun r s'=>r=w∧EP X pins σ Q r s') pl (by omega) (by omega) (by rw [gB,← hl]; exact h1) (by simpa using ew) ⟨rfl,fin⟩) hs
theorem JP:Fb X NP:=by
 intro value slice pins s σ H x y v u Q I rx ry h hs
 obtain ⟨z,i,c,rfl,rfl,hz,he,q⟩:=h
 obtain ⟨t,rfl⟩:=rx
 obtain ⟨t',rfl⟩:=ry
 obtain ⟨j,h1,h2,h3,h4,h5⟩:=rW he
 have hl:z.cps.toList.length=z.length:=by simp [Str.length]
 rw [hl] at h1 h4 h5
 have hn:=lh
 exact tail_any (typeIs_str s z t) slot_str_getitem.lookup (getItem_str (c:=c) (by
  have e1:decide (i < -(2 ^ 63:Int))=false:=decide_eq_false (by omega)
  have e2:decide (i ≥ 2 ^ 63)=false:=decide_eq_false (by omega)
  rw [e1,e2,Bool.or_false]) (by rw [h1]; simpa using h2) ⟨.str ⟨#[c]⟩,H,I.tok _,⟨_,rfl⟩,q⟩) hs
def Vi (K:PySem.W.Frag):R2:=fun x y H Q=>NN K x y H Q∨NO K x y H Q∨NP x y H Q
theorem JQ:Fb X (Vi X.K):=Fc.or (JO.or JP)
theorem wa (aK:List Value) (n j:Nat) (u:Value):Obj.mapSeq (·.setIfInBounds j u) { cls:=.type "list",data:=.seq aK.toArray n }={ cls:=.type "list",data:=.seq (aK.set j u).toArray n }:=by
 simp [Obj.mapSeq]
theorem Inv.lst {pins:List (Addr×Obj)} {σ:St} {H:Hp} {s:Shared} {p:Addr} {xs:List V} (I:Inv X pins σ H s) (h:H p=some (.lst xs)) :
  ∃ (aK:List Value) (n:Nat),Vals xs aK∧s.heap.get? p=some { cls:=.type "list",data:=.seq aK.toArray n }∧xs.length≤sizeLine:=by
 obtain ⟨z,aK,n,r,e⟩:=I.bC p _ h
 exact ⟨aK,n,r,e,z⟩
theorem Inv.JR {pins:List (Addr×Obj)} {σ:St} {H:Hp} {s:Shared} {p:Addr} {xs ys:List V} {aK its':List Value} {n n':Nat} {f:Obj→Obj} (I:Inv X pins σ H s) (h:H p=some (.lst xs))
  (ho:s.heap.get? p=some { cls:=.type "list",data:=.seq aK.toArray n }) (hf:f { cls:=.type "list",data:=.seq aK.toArray n }={ cls:=.type "list",data:=.seq its'.toArray n' }) (r:Vals ys its') (hz:ys.length≤sizeLine) (t:Nat) :
  Inv X pins σ (upd H p (.lst ys)) { s with heap:=s.heap.update p f,toks:=t }:=by
 have e:(s.heap.update p f).get? p=some { cls:=.type "list",data:=.seq its'.toArray n' }:=by
  rw [IS f ho (by rw [hf] <;> rfl),hf]
 refine I.write (x:=p) (e:=p) (by rw [h]; trivial) (.inl rfl) (fun b u hb q=>(Hr _ _ (Ne.symm hb)).trans q) ⟨_,e⟩ ?_
 exact ⟨hz,its',n',r,e⟩
def NQ:V→V→V→Hp→(Hp→Prop)→Prop:=fun o i v H Q=>∃ p xs k j,o = .ref p∧i = .int k∧H p=some (.lst xs)∧vK xs.length k=some j∧Q (upd H p (.lst (xs.set j v)))
theorem set_list:Nq X NQ:=by
 intro pins s σ H o i v ov iv u Q I ro ri rv h
 obtain ⟨p,xs,k,j,rfl,rfl,hp,hj,q⟩:=h
 cases ro
 obtain ⟨t,rfl⟩:=ri
 obtain ⟨aK,n,r,ho,hz⟩:=I.lst hp
 obtain ⟨h1,h2,h3,h4⟩:=yh hj
 have hl:=r.length
 have hn:=lh
 have I':Inv X pins σ (upd H p (.lst (xs.set j v))) { s with heap:=s.heap.update p (Obj.mapSeq (·.setIfInBounds j u)) } :=
  I.JR hp ho (wa aK n j u) (r.set rv j) (by rw [Hu]; exact hz) s.toks
 by_cases h0:0≤k
 · have hk:k.toNat=j:=by
    rw [seqIndex_of h0 h4] at h1
    exact Option.some.inj h1
   exact PySem.W.ki_setAt ho h0 (by omega) (by rw [gB,← hl]; exact h4) (by rw [hk]; exact ⟨_,I',q⟩)
 · have hk:(k+(aK.toArray.size:Int)).toNat=j:=by
    rw [seqIndex_neg (by omega) h3] at h1
    rw [gB,← hl]
    exact Option.some.inj h1
   exact PySem.W.ki_setBack ho (by omega) (by rw [gB,← hl]; exact h3) (by omega) (by rw [hk]; exact ⟨_,I',q⟩)
theorem rX (lo hi:Option Int) (n:Nat):(sliceBounds lo hi none n).1=((HT.cX n 0 lo:Nat):Int)∧(sliceBounds lo hi none n).2.1=((HT.cX n n hi:Nat):Int)∧(sliceBounds lo hi none n).2.2=1:=by
 refine ⟨?_,?_,rfl⟩
 · cases lo with
   | none=>simp [sliceBounds,HT.cX]
   | some i =>
     simp only [sliceBounds,HT.cX,Option.getD_none,show (1:Int) > 0 by decide,if_true]
     by_cases h:i < 0
     · simp only [h,if_true] <;> omega
     · simp only [h,if_false] <;> omega
 · cases hi with
   | none=>simp [sliceBounds,HT.cX]
   | some i =>
     simp only [sliceBounds,HT.cX,Option.getD_none,show (1:Int) > 0 by decide,if_true]
     by_cases h:i < 0
     · simp only [h,if_true] <;> omega
     · simp only [h,if_false] <;> omega
theorem qf (aK:List Value) (lo hi:Option Int):slicePick aK.toArray lo hi none=((aK.drop (HT.cX aK.length 0 lo)).take (HT.cX aK.length aK.length hi - HT.cX aK.length 0 lo)).toArray:=by
 obtain ⟨h1,h2,h3⟩:=rX lo hi aK.toArray.size
 unfold slicePick
 rw [h1,h2,h3]
 simp only [sliceRange_one,pick_run,gB] <;> rfl
def NR (K:PySem.W.Frag):V→Option Int→Option Int→Hp→VK→Prop:=fun x lo hi H Q=>∃ a xs,x = .ref a∧eI K H a xs∧∀ p,H p=none→Q (.ref p) (upd H p (.lst (ua xs lo hi)))
theorem Fd:BE X (NR X.K):=by
 intro pins s σ H x v vl vu lo hi sl Q I rx hs pl pu h
 obtain ⟨a,xs,rfl,hx,q⟩:=h
 cases rx
 obtain ⟨aK,r,ht,hz⟩:=I.list hx
 have hlen:=r.length
 refine ⟨"list",_,slot_list_getitem.lookup,ht.isList.typeIs,?_⟩
 refine wpAny_getItem_list_slice ht.isList hs pl pu .none (by simp) ?_ (by rw [gB] <;> omega)
 rw [qf,← hlen]
 refine ⟨.ref s.heap.objs.size,_,I.laid (t':=s.toks) (o:=.lst (ua xs lo hi)) (fun b ob q=>cY _ q) (du _) ?_,rfl,q _ (I.bC.fresh (du _))⟩
 exact ⟨mD (mh xs lo hi) hz,_,0,(r.drop (HT.cX xs.length 0 lo)).take (HT.cX xs.length xs.length hi - HT.cX xs.length 0 lo),m9 _ rfl⟩
def iI:V→Bool
 | .bh=>true
 | .bl _=>true
 | .int _=>true
 | .str _=>true
 | _=>false
def Em:V→V→Bool
 | .bh,.bh=>true
 | .bl a,.bl b=>a == b
 | .bl a,.int b=>(if a then 1 else 0) == b
 | .int a,.bl b=>a == (if b then 1 else 0)
 | .int a,.int b=>a == b
 | .str a,.str b=>a == b
 | _,_=>false
theorem JS {A:Around} {s:Shared} {y x:V} {u v:Value} (ry:RelV y u) (rx:RelV x v) (fy:iI y=true) (fx:iI x=true):SeqAt.EqAt A s u v (Em y x):=by
 cases y with
 | bh =>
   cases ry
   cases x with
   | bh=>cases rx; exact SeqAt.EqAt.same _
   | bl b=>cases rx; exact SeqAt.EqAt.none_bool b
   | int b=>obtain ⟨t,rfl⟩:=rx; exact SeqAt.EqAt.none_int b t
   | str b=>obtain ⟨t,rfl⟩:=rx; exact SeqAt.EqAt.none_str b t
   | _=>exact absurd (show false=true from fx) nL
 | bl a =>
   cases ry
   cases x with
   | bh=>cases rx; exact SeqAt.EqAt.bool_none a
   | bl b=>cases rx; exact SeqAt.EqAt.bool_bool a b
   | int b=>obtain ⟨t,rfl⟩:=rx; exact SeqAt.EqAt.bool_int a b t
   | str b=>obtain ⟨t,rfl⟩:=rx; exact SeqAt.EqAt.bool_str a b t
   | _=>exact absurd (show false=true from fx) nL
 | int a =>
   obtain ⟨t',rfl⟩:=ry
   cases x with
   | bh=>cases rx; exact SeqAt.EqAt.int_none a t'
   | bl b=>cases rx; exact SeqAt.EqAt.int_bool a t' b
   | int b=>obtain ⟨t,rfl⟩:=rx; exact SeqAt.EqAt.int_int a t' b t
   | str b=>obtain ⟨t,rfl⟩:=rx; exact SeqAt.EqAt.int_str a t' b t
   | _=>exact absurd (show false=true from fx) nL
 | str a =>
   obtain ⟨t',rfl⟩:=ry
   cases x with
   | bh=>cases rx; exact SeqAt.EqAt.str_none a t'
   | bl b=>cases rx; exact SeqAt.EqAt.str_bool a t' b
   | int b=>obtain ⟨t,rfl⟩:=rx; exact SeqAt.EqAt.str_int a t' b t
   | str b=>obtain ⟨t,rfl⟩:=rx; exact SeqAt.EqAt.str_str a t' b t
   | _=>exact absurd (show false=true from fx) nL
 | _=>exact absurd (show false=true from fy) nL
def wb (x:V) (u:Value):Bool:=match u with
 | .none=>Em .bh x
 | .bool b=>Em (.bl b) x
 | .int i _=>Em (.int i) x
 | .str z _=>Em (.str z) x
 | _=>false
theorem BG {x y:V} {u:Value} (r:RelV y u) (f:iI y=true):wb x u=Em y x:=by
 cases y with
 | bh=>cases r; rfl
 | bl b=>cases r; rfl
 | int i=>obtain ⟨t,rfl⟩:=r; rfl
 | str z=>obtain ⟨t,rfl⟩:=r; rfl
 | _=>exact absurd (show false=true from f) nL
theorem ko {x:V}:∀ {xs:List V} {us:List Value},Vals xs us→xs.all iI=true→us.any (wb x)=xs.any fun y=>Em y x
 | _,_,.nil,_=>rfl
 | y :: xs,u :: us,.cons r t,f=>by
   rw [vP,iC] at f
   rw [Mt,Mt,BG r f.1,ko t f.2]
theorem iJ {A:Around} {s:Shared} {x:V} {v:Value} (rx:RelV x v) (fx:iI x=true):∀ {xs:List V} {us:List Value},Vals xs us→xs.all iI=true→∀ u∈us,SeqAt.EqAt A s u v (wb x u)
 | _,_,.nil,_=>fun u hu=>by cases hu
 | y :: xs,u :: us,.cons r t,f=>fun u' hu=>by
   rw [vP,iC] at f
   rcases dS.mp hu with rfl | hu
   · rw [BG r f.1]; exact JS r rx f.1 fx
   · exact iJ rx fx t f.2 u' hu
def QS (x:V) (xs:List V):Bool:=xs.any fun y=>Em y x
def Si (K:PySem.W.Frag) (neg:Bool):R2:=fun x y H Q=>∃ p xs,y = .ref p∧(eI K H p xs∨dw K H p xs)∧iI x=true∧xs.all iI=true∧Q (.bl (if neg then !QS x xs else QS x xs)) H
theorem zj:dY X (compareOp .In) (Si X.K false):=by
 intro pins s σ H x y v u Q I rx ry h
 obtain ⟨p,xs,rfl,hq,fx,fs,q⟩:=h
 cases ry
 rcases hq with hq | hq
 · obtain ⟨aK,r,pl,hz⟩:=I.list hq
   refine SeqAt.in_listAt (wb x) pl.isList (fun w hw=>iJ rx fx r fs w (by simpa using hw)) ⟨.bl _,H,I,rfl,?_⟩
   rw [show aK.toArray.any (wb x)=aK.any (wb x) by simp,ko r fs]
   exact q
 · obtain ⟨aK,r,pl,hz⟩:=I.tuple hq
   refine SeqAt.in_tupleAt (wb x) pl (fun w hw=>iJ rx fx r fs w (by simpa using hw)) ⟨.bl _,H,I,rfl,?_⟩
   rw [show aK.toArray.any (wb x)=aK.any (wb x) by simp,ko r fs]
   exact q
theorem rY:dY X (compareOp .NotIn) (Si X.K true):=by
 intro pins s σ H x y v u Q I rx ry h
 obtain ⟨p,xs,rfl,hq,fx,fs,q⟩:=h
 cases ry
 rcases hq with hq | hq
 · obtain ⟨aK,r,pl,hz⟩:=I.list hq
   refine SeqAt.notIn_listAt (wb x) pl.isList (fun w hw=>iJ rx fx r fs w (by simpa using hw)) ⟨.bl _,H,I,rfl,?_⟩
   rw [show aK.toArray.any (wb x)=aK.any (wb x) by simp,ko r fs]
   exact q
 · obtain ⟨aK,r,pl,hz⟩:=I.tuple hq
   refine SeqAt.notIn_tupleAt (wb x) pl (fun w hw=>iJ rx fx r fs w (by simpa using hw)) ⟨.bl _,H,I,rfl,?_⟩
   rw [show aK.toArray.any (wb x)=aK.any (wb x) by simp,ko r fs]
   exact q
theorem rZ:dY X (compareOp .NotIn) (fun x y H Q=>∃ i j,x = .str i∧y = .str j∧Q (.bl (!(!(Builtin.Str.occurrences j i 0 j.length 1).isEmpty))) H):=by
 intro pins s σ H x y v u Q I rx ry h
 obtain ⟨i,j,rfl,rfl,q⟩:=h
 obtain ⟨t,rfl⟩:=rx
 obtain ⟨t',rfl⟩:=ry
 exact notIn_str ⟨.bl _,H,I,rfl,q⟩
theorem r6:cU X (.builtin "len") (fun xs H Q=>∃ p ys,xs=[.ref p]∧(eI X.K H p ys∨dw X.K H p ys)∧Q (.int ys.length) H):=by
 intro pins s σ H xs us Q I r h
 obtain ⟨p,ys,rfl,hq,q⟩:=h
 obtain ⟨u,rfl,rx⟩:=vals1 r
 cases rx
 have hn:=lh
 rcases hq with hq | hq
 · obtain ⟨aK,r',pl,hz⟩:=I.list hq
   have hlen:=r'.length
   exact Calls.call_len_list pl.isList (by simp only [gB] <;> omega) ⟨.int ys.length,H,I.tok _,⟨s.toks+1,by rw [gB,hlen]⟩,q⟩
 · obtain ⟨aK,r',pl,hz⟩:=I.tuple hq
   have hlen:=r'.length
   exact len_tuple pl (by simp only [gB] <;> omega) ⟨.int ys.length,H,I.tok _,⟨s.toks+1,by rw [gB,hlen]⟩,q⟩
theorem r8:cU X (.builtin "len") (fun xs H Q=>∃ z,xs=[.str z]∧z.length≤sizeLine∧Q (.int z.length) H):=by
 intro pins s σ H xs us Q I r h
 obtain ⟨z,rfl,hz,q⟩:=h
 obtain ⟨u,rfl,t,rfl⟩:=vals1 r
 have hn:=lh
 exact len_str (by omega) ⟨.int z.length,H,I.tok _,⟨_,rfl⟩,q⟩
theorem cU.or {f:Value} {r r':List V→Hp→VK→Prop} (h:cU X f r) (h':cU X f r'):cU X f (fun xs H Q=>r xs H Q∨r' xs H Q):=by
 intro pins s σ H xs us Q I rs q
 rcases q with q | q
 · exact h pins s σ H xs us Q I rs q
 · exact h' pins s σ H xs us Q I rs q
theorem d9:cU X (.type "list") (fun xs H Q=>∃ p ys,xs=[.ref p]∧(eI X.K H p ys∨dw X.K H p ys)∧∀ l,H l=none→Q (.ref l) (upd H l (.lst ys))):=by
 intro pins s σ H xs us Q I r h
 obtain ⟨p,ys,rfl,hq,q⟩:=h
 obtain ⟨u,rfl,rx⟩:=vals1 r
 cases rx
 have fin:∀ (aK:List Value),Vals ys aK→ys.length≤sizeLine→∀ (h':Heap) (c':Nat),(∀ b o',s.heap.get? b=some o'→h'.get? b=some o') →
   h'.get? s.heap.objs.size=some { cls:=.type "list",dict:=none,data:=.seq aK.toArray c',slots:=#[] }→EP X pins σ Q (.ref s.heap.objs.size) { s with heap:=h' }:=fun aK r' hz h' c' kp e =>
  ⟨.ref s.heap.objs.size,_,I.laid (t':=s.toks) kp (du _) (show bM X.prog X.w _ h' _ (.lst ys) from ⟨hz,aK,c',r',e⟩),rfl,q _ (I.bC.fresh (du _))⟩
 rcases hq with hq | hq
 · obtain ⟨aK,r',pl,hz⟩:=I.list hq
   have hlen:=r'.length
   obtain ⟨o,ho,hc,n,hd⟩:=pl.isList
   exact call_list_seq p (.inl rfl) ho hc hd (fun h' c' kp e=>fin aK r' hz h' c' kp e) (by simp only [gB] <;> omega)
 · obtain ⟨aK,r',pl,hz⟩:=I.tuple hq
   have hlen:=r'.length
   obtain ⟨o,ho,hc,n,hd⟩:=pl
   exact call_list_seq p (.inr rfl) ho hc hd (fun h' c' kp e=>fin aK r' hz h' c' kp e) (by simp only [gB] <;> omega)
theorem jB:cU X (.type "tuple") (fun xs H Q=>∃ p ys,xs=[.ref p]∧((eI X.K H p ys∧∀ l,H l=none→Q (.ref l) (upd H l (.tup ys)))∨(dw X.K H p ys∧Q (.ref p) H))):=by
 intro pins s σ H xs us Q I r h
 obtain ⟨p,ys,rfl,h⟩:=h
 obtain ⟨u,rfl,rx⟩:=vals1 r
 cases rx
 rcases h with ⟨hq,q⟩ | ⟨hq,q⟩
 · obtain ⟨aK,r',pl,hz⟩:=I.list hq
   have hlen:=r'.length
   refine call_tuple_list pl.isList (fun h' kp=>?_) (by simp only [gB] <;> omega)
   have I1:Inv X pins σ H { s with heap:=h' }:=I.kept (t':=s.toks) kp
   have I2:Inv X pins σ (upd H h'.objs.size (.tup ys)) { s with heap:=h'.push { cls:=.type "tuple",data:=.seq aK.toArray } } :=
    I1.laid (t':=s.toks) (fun b o e=>cY _ e) (du _) (show bM X.prog X.w _ _ _ (.tup ys) from ⟨hz,aK,r',IsTup.new _ _⟩)
   exact ⟨.ref h'.objs.size,_,I2,rfl,q _ (I1.bC.fresh (du _))⟩
 · obtain ⟨aK,r',pl,hz⟩:=I.tuple hq
   exact call_tuple_same pl ⟨.ref p,H,I,rfl,q⟩
def Sj (K:PySem.W.Frag) (T:String) (x:V) (H:Hp):Prop:=match x with
 | .str _=>T="str"
 | .int _=>T="int"
 | .ref p=>(T="list"∧∃ xs,eI K H p xs)∨(T="tuple"∧∃ o,K.lookup p=some o∧o.cls = .type "tuple"∧o.dict=none) ∨
    (T="dict"∧((∃ aZ,H p=some (.dK aZ))∨∃ aZ,H p=some (.dT aZ)))∨(T="set"∧∃ S n,H p=some (.set S n))
 | _=>False
theorem BH {pins:List (Addr×Obj)} {σ:St} {H:Hp} {s:Shared} {T:String} {x:V} {v:Value} (I:Inv X pins σ H s) (r:RelV x v) (ty:Sj X.K T x H) :
  s.TypeIs v T∧∀ a,v = .ref a→∃ ob,s.heap.get? a=some ob∧ob.dict=none:=by
 cases x with
 | str z =>
   obtain ⟨t,rfl⟩:=r
   cases (show T="str" from ty)
   exact ⟨typeIs_str s z t,fun _ e=>nomatch e⟩
 | int i =>
   obtain ⟨t,rfl⟩:=r
   cases (show T="int" from ty)
   exact ⟨typeIs_int s i t,fun _ e=>nomatch e⟩
 | ref p =>
   cases r
   rcases ty with ⟨rfl,xs,hq⟩ | ⟨rfl,o,hk,hc,hd⟩ | ⟨rfl,hk⟩ | ⟨rfl,S,n,hk⟩
   · obtain ⟨aK,_,pl,_⟩:=I.list hq
     refine ⟨pl.isList.typeIs,fun a e=>?_⟩
     cases e
     obtain ⟨o,n,e,c,hd,_⟩:=pl
     exact ⟨o,e,hd⟩
   · refine ⟨⟨o,I.la p o hk,hc⟩,fun a e=>?_⟩
     cases e
     exact ⟨o,I.la _ o hk,hd⟩
   · have z:∃ o,s.heap.get? p=some o∧o.ExactDict:=by
      rcases hk with ⟨aZ,hk⟩ | ⟨aZ,hk⟩
      · obtain ⟨_,_,_,_,o,_,_,e,ex,_⟩:=I.bC p _ hk
        exact ⟨o,e,ex⟩
      · obtain ⟨_,_,_,_,o,_,_,e,ex,_⟩:=I.bC p _ hk
        exact ⟨o,e,ex⟩
     obtain ⟨o,e,ex⟩:=z
     refine ⟨⟨o,e,ex.1⟩,fun a e2=>?_⟩
     cases e2
     exact ⟨o,e,ex.2.1⟩
   · obtain ⟨o,_,_,_,e,ex,_⟩:=I.bC p _ hk
     refine ⟨⟨o,e,ex.1⟩,fun a e2=>?_⟩
     cases e2
     exact ⟨o,e,ex.2.1⟩
 | _=>exact False.elim ty
def Sk (K:PySem.W.Frag) (T:String) (r:V→List V→Hp→VK→Prop) (to:TE):TE:=fun σ H Q=>to σ H fun x H1=>Sj K T x H1∧r x [] H1 Q
def Wu (K:PySem.W.Frag) (T:String) (r:V→List V→Hp→VK→Prop) (to:TE) (t:TA):TE:=fun σ H Q=>to σ H fun x H1=>Sj K T x H1∧t σ H1 fun xs H2=>r x xs H2 Q
variable {o e:Expr} {es:List Expr} {to:TE} {t:TA} {name:Str} {apos bf:Pos} {T id:String} {r:V→List V→Hp→VK→Prop}
theorem JT (pa:PlainAttrs T) (slot:Slot T name id) (JU:typeOf (.builtin id)=pure (.type "method_descriptor")) (hm:Be X id r) (ho:PE X o to)
  (eJ:attributeBase o name X.env (eval o X.env)=eval o X.env:=by rfl) (eM:(apos.endLine == bf.line)=true:=by rfl):PE X (.Call (.Attribute o name apos) [] [] bf) (Sk X.K T r to):=by
 intro pins s σ H Q I h
 refine wpAny_Call_method0_late eJ eM (bT (ho pins s σ H _ I h) fun v s1 ⟨x,H1,I1,r1,ty,q1⟩=>?_)
 obtain ⟨h1,h2⟩:=BH I1 r1 ty
 exact ⟨T,id,pa,slot,JU,h1,h2,QD rfl (PySem.evalArgs_none (hm pins s1 σ H1 x [] v [] Q I1 r1 .nil q1))⟩
theorem ub (pa:PlainAttrs T) (slot:Slot T name id) (JU:typeOf (.builtin id)=pure (.type "method_descriptor")) (hm:Be X id r) (ho:PE X o to) (ha:PA X (e :: es) t)
  (eJ:attributeBase o name X.env (eval o X.env)=eval o X.env:=by rfl)
  (nS:((backTo bf (starEach (e :: es) X.env)).all (fun x=>!x.1) && (backToKw bf (keywordEach [] X.env)).all (fun x=>x.1.isSome)
    && decide ((e :: es).length+([]:List Keyword).length+(if ([]:List Keyword).isEmpty then 0 else 1) < 30))=true:=by rfl)
  (eM:(apos.endLine == bf.line)=true:=by rfl) (hs:starEach (e :: es) X.env=(false,eval e X.env) :: starEach es X.env:=by rfl) (eO:(backTo bf (starEach es X.env)).any (·.1)=false:=by rfl) :
  PE X (.Call (.Attribute o name apos) (e :: es) [] bf) (Wu X.K T r to t):=by
 intro pins s σ H Q I h
 refine wpAny_Call_method_late eJ nS eM rfl (bT (ho pins s σ H _ I h) fun v s1 ⟨x,H1,I1,r1,ty,q1⟩=>?_)
 obtain ⟨h1,h2⟩:=BH I1 r1 ty
 refine ⟨T,id,pa,slot,JU,h1,h2,?_⟩
 have hA:=ha bf pins s1 σ H1 _ I1 q1
 rw [hs] at hA ⊢
 refine QD (by show (false || (backTo bf (starEach es X.env)).any (·.1))=false; rw [eO] <;> rfl) (Calls.evalArgs_plain ?_)
 exact bT hA fun us s2 ⟨vs,H2,I2,r2,q2⟩=>hm pins s2 σ H2 x vs v us Q I2 r1 r2 q2
end
def Sl (X:Cx) (id:String) (r:V→List V→Hp→VK→Prop):Prop :=
 ∀ (pins:List (Addr×Obj)) (s:Shared) (σ:St) (H:Hp) (x:V) (xs:List V) (v:Value) (us:List Value) (Q:VK),Inv X pins σ H s→RelV x v→Vals xs us→r x xs H Q →
  wpAny (model X.prog X.w) X.A (call (.builtin id) (v :: us)) (EP X pins σ Q) X.xe s
theorem Vals.one:∀ {x:V} {us:List Value},Vals [x] us→∃ u,us=[u]∧RelV x u
 | _,_,.cons r .nil=>⟨_,rfl,r⟩
theorem Vals.two:∀ {x y:V} {us:List Value},Vals [x,y] us→∃ u v,us=[u,v]∧RelV x u∧RelV y v
 | _,_,_,.cons r (.cons q .nil)=>⟨_,_,rfl,r,q⟩
theorem Vals.zero:∀ {us:List Value},Vals [] us→us=[]
 | _,.nil=>rfl
theorem Vals.dropLast {xs:List V} {us:List Value} (h:Vals xs us):Vals xs.dropLast us.dropLast:=by
 induction h with
 | nil=>exact .nil
 | cons r t ih =>
   cases t with
   | nil=>exact .nil
   | cons q t'=>exact .cons r ih
theorem Vals.eraseIdx:∀ {xs:List V} {us:List Value} (i:Nat),Vals xs us→Vals (xs.eraseIdx i) (us.eraseIdx i)
 | _,_,_,.nil=>.nil
 | _,_,0,.cons _ t=>t
 | _,_,i+1,.cons r t=>.cons r (Vals.eraseIdx i t)
theorem wc {α:Type} (l:List α):l.eraseIdx (l.length - 1)=l.dropLast:=by
 induction l with
 | nil=>rfl
 | cons a r ih =>
   cases r with
   | nil=>rfl
   | cons b r =>
     have e:(a :: b :: r).length - 1=((b :: r).length - 1)+1:=by
      have h1:(a :: b :: r).length=r.length+2:=rfl
      have h2:(b :: r).length=r.length+1:=rfl
      omega
     rw [e,List.eraseIdx_cons_succ,ih]
     all_goals rfl
section
variable {X:Cx} {pins:List (Addr×Obj)} {σ:St} {H:Hp} {s:Shared} {l b:Addr} {xs ys zs:List V}
theorem Inv.JV {aK its':List Value} {n:Nat} {f:Array Value→Array Value} {t':Nat} (I:Inv X pins σ H s) (hH:H l=some (.lst xs))
  (e:s.heap.get? l=some { cls:=.type "list",data:=.seq aK.toArray n }) (hf:f aK.toArray=its'.toArray) (hv:Vals ys its') (hz:ys.length≤sizeLine) :
  Inv X pins σ (upd H l (.lst ys)) { s with heap:=s.heap.update l (Obj.mapSeq f),toks:=t' }:=by
 have q:=PySem.IsL.update e f
 rw [hf] at q
 refine I.write (x:=l) (e:=l) (by rw [hH]; exact trivial) (.inl rfl) (fun b' u hb hu=>(Hr s.heap (Obj.mapSeq f) (Ne.symm hb)).trans hu) ⟨_,q⟩ ?_
 exact ⟨hz,its',_,hv,q⟩
theorem Inv.Sm {aK:List Value} {t':Nat} (I:Inv X pins σ H s) (hv:Vals ys aK) (hz:ys.length≤sizeLine) :
  Inv X pins σ (upd H s.heap.objs.size (.lst ys)) { s with heap:=s.heap.push { cls:=.type "list",data:=.seq aK.toArray },toks:=t' } :=
 I.laid (fun _ _ q=>cY _ q) (du _) ⟨hz,aK,0,hv,m9 _ rfl⟩
theorem Inv.fresh (I:Inv X pins σ H s):H s.heap.objs.size=none:=I.bC.fresh (du _)
theorem Inv.JW (I:Inv X pins σ H s) (hH:H l=some (.lst xs)):xs.length≤sizeLine∧∃ (aK:List Value) (n:Nat),Vals xs aK∧xs.length=aK.length∧s.heap.get? l=some { cls:=.type "list",data:=.seq aK.toArray n }:=by
 obtain ⟨z,aK,n,r,e⟩:=I.bC l _ hH
 exact ⟨z,aK,n,r,r.length,e⟩
end
section
variable {X:Cx}
def yj:V→List V→Hp→VK→Prop:=fun x vs H Q=>∃ l xs y,x = .ref l∧vs=[y]∧H l=some (.lst xs)∧xs.length < sizeLine∧Q .bh (upd H l (.lst (xs ++ [y])))
theorem bg:Sl X "list.append" yj:=by
 intro pins s σ H x vs v us Q I rx rv h
 obtain ⟨l,xs,y,rfl,rfl,hH,hz,q⟩:=h
 cases rx
 obtain ⟨u,rfl,ru⟩:=rv.one
 obtain ⟨z,aK,n,r,hl,e⟩:=I.JW hH
 refine call_meets F.slot_list_append ⟨_,e,rfl⟩ F.entry_list_append (F.args_list_append_2 _ _) (PySem.list_append l aK.toArray n u (by rw [gB]; omega)) ⟨e,?_⟩
 refine ⟨.bh,_,I.JV (its':=aK ++ [u]) hH e (by simp) (r.append (.cons ru .nil)) ?_,rfl,q⟩
 rw [mf,MY]
 omega
def NT:V→List V→Hp→VK→Prop:=fun x vs H Q=>∃ l xs y,x = .ref l∧vs=[]∧H l=some (.lst xs)∧xs[xs.length - 1]?=some y∧Q y (upd H l (.lst xs.dropLast))
theorem BI:Sl X "list.pop" NT:=by
 intro pins s σ H x vs v us Q I rx rv h
 obtain ⟨l,xs,y,rfl,rfl,hH,hy,q⟩:=h
 cases rx
 have Sn:=rv.zero
 subst Sn
 obtain ⟨z,aK,n,r,hl,e⟩:=I.JW hH
 obtain ⟨u,hu,ru⟩:=r.get hy
 have NU:aK.toArray[aK.toArray.size - 1]?=some u:=by
  show aK.toArray[aK.length - 1]?=some u
  rw [← Array.getElem?_toList,← hl]
  exact hu
 refine call_meets F.slot_list_pop ⟨_,e,rfl⟩ F.entry_list_pop (F.args_list_pop_1 _) (MeetsSeq.list_pop_last l aK.toArray n u NU (by rw [gB]; omega)) ⟨e,?_⟩
 refine ⟨y,_,I.JV (its':=aK.dropLast) hH e ?_ r.dropLast ?_,ru,q⟩
 · show aK.toArray.eraseIdxIfInBounds (aK.toArray.size - 1)=aK.dropLast.toArray
   rw [gB,List.eraseIdxIfInBounds_toArray,wc]
 · rw [Hs]
   omega
end
section
variable {prog:Program} {w:World} {A:Around} {E:Value→Shared→Prop} {s:Shared}
end
section
variable {X:Cx}
end
end L2
namespace QT
open PySem PySem.W PySem.Calls PyProof.Rows
theorem mG {P:Params} {h:Heap}:∀ (ns:List Int) (vs:List Value),WellAll P h vs (ns.map WData.int)→IntsAre vs ns:=by
 intro ns
 induction ns with
 | nil =>
   intro vs w
   rw [Hy] at w
   cases w
   exact .nil
 | cons n ns ih =>
   intro vs w
   rw [jr] at w
   cases w with
   | cons a b =>
     cases a
     exact .cons _ _ (ih _ b)
theorem zk {l:OpenLaw} {n:Nat} (hn:l.most=some n) {P:Params} {h:Heap} {args:List WData} {vals:List Value}
  (ll:l.row.toRowW.claim.pre args=true) (NV:WellAll P h vals args) :
  ∃ a vs ns,vals=[Value.ref a]∧args=[WData.list (ns.map WData.int)]∧h.get? a=some { cls:=.type "list",data:=.seq vs.toArray }∧IntsAre vs ns∧ns.length≤n:=by
 have Wv:WShape.hasAll [] args [.list .int]=true:=(pre_splitW ll).1
 have hc:l.pre.holds [] { args:=args }=true:=(pre_splitW ll).2
 obtain ⟨d,r,rfl,h1,h2⟩:=hasAllW_cons Wv
 obtain rfl:=hasAllW_nil h2
 obtain ⟨xs,rfl,h3⟩:=hasW_list h1
 obtain ⟨ns,rfl⟩:=items_int h3
 have hlen:ns.length≤n:=by
  unfold OpenLaw.pre at hc
  have h4:(WTm.not (.lt (.lit (.int (n:Int))) (.len (.arg 0)))).holds [] { args:=[.list (ns.map .int)] }=true:=by
   have h4:=(holds_andW hc).1
   rw [hn] at h4
   exact h4
  have h5:=condW_of h4 (w_not (w_lt w_lit (w_len_list (w_arg rfl))))
  rw [b_] at h5
  refine Nat.le_of_not_lt fun q=>?_
  have q':(n:Int) < ((ns.length:Nat):Int):=by omega
  first
   | (rw [decide_eq_true q'] at h5; exact absurd h5 (by decide))
   | (simp at h5; omega)
 cases NV with
 | cons w1 w2 =>
   cases w2
   cases w1 with
   | list ho jM=>exact ⟨_,_,ns,rfl,rfl,ho,mG ns _ jM,hlen⟩
theorem zl (l:OpenLaw) (args:List WData):l.row.toRowW.claim.post args (.bool true) args=true :=
 postW_of (r:=l.row.toRowW) (X:=(true == true))
  (show WShape.has [] (.bool true) .bool=true by first | rfl | decide | simp [WShape.has,WShape.arms,WShape.armsAll])
  (show (WTm.eq .res (.lit (.bool true))).value [] { args:=args,res:=some (.bool true),after:=args }=some (.bool (true == true)) from w_eq_bool (w_res rfl) w_lit) rfl
theorem uc {l:OpenLaw} {n:Nat} {q:Program} {loose:List Str} {XP:(Str→Option Value)→Heap→Prop} {YP:World→Heap→Prop} {d:DefRec}
  (hn:l.most=some n) (Sq:d.params.defaults=[])
  (call:∀ (w:World) (s₀ s₁:Shared) (mg mb:Str→Option Value) (fa:Addr) (o:Obj) (pm cd doc:Value) (a:Addr) (vs:List Value) (ns:List Int),
    Ground q loose [] XP w s₀ mg mb s₁.heap→YP w s₁.heap →
    s₁.heap.get? fa=some o→o.data = .func (docDef d.name d.params d.body d.scope pm cd doc)→s₁.heap.CodeRec cd d.name→mg d.name=some (.ref fa) →
    s₁.heap.get? a=some { cls:=.type "list",data:=.seq vs.toArray }→IntsAre vs ns→ns.length≤n→s₁.gens = #[] →
    codeAny (model l.prog w) callerA (.call (.ref fa) ⟨[.ref a],[]⟩) (fun r s'=>r = .ok (.ret (.bool true))∧OldK s₁.heap s'.heap∧s'.os=s₁.os∧AllBare s'.gens) s₁) :
  WalkO q loose XP YP l.row.toRowW d [] (fun f vs=>PySem.call f vs):=by
 intro w s₀ s₁ mg mb G Y fa o pm cd doc dV kV ho hd iA hD NW hg args vals as ll NX Vj NV Sr
 obtain rfl:dV = .none:=Dflts.none hD Sq
 obtain rfl:kV = .none:=Dflts.noKw hD
 obtain ⟨a,vs,ns,rfl,rfl,JX,hints,hlen⟩:=zk hn ll NV
 refine enter_call (codeAny_mono (call w s₀ s₁ mg mb fa o pm cd doc a vs ns G Y ho (fd_plain hd) iA NW JX hints hlen hg) fun r s' hq=>?_)
 obtain ⟨rfl,h2,h3,h4⟩:=hq
 exact ⟨.inl ⟨.bool true,.bool true,[],rfl,fun _=>rfl,.bool true,zl l _,fun _=>⟨List.Pairwise.nil,fun _ hm=>(nomatch hm)⟩⟩,h2,h3,h4⟩
section
variable {prog:Program} {w:World} {A:Around} {E:Value→Shared→Prop} {s:Shared} {K:Frag}
end
end QT
namespace L2
open PySem PySem.Spec PyProof.Rows
theorem qY:∀ {vs:List Value} {ns:List Int},IntsAre vs ns→Vals (ns.map V.int) vs
 | _,_,.nil=>.nil
 | _,_,.cons n t h=>.cons ⟨t,rfl⟩ (qY h)
def NY (H:Hp):Prop:=∀ b,H b=none∨∃ o xs,H b=some (.tV o (.lst xs))
theorem BJ {P:Program} {w:World} {K:PySem.W.Frag} {mg mb:Str→Option Value} {CX:v7} {k:Nat} {fa a:Addr} {fd:FuncData} {x:Str} {sp:Sp} {s₁:Shared} {vs:List Value} {ns:List Int}
  (KX:K.In s₁.heap) (Ss:s₁.heap.Ns mainGlobals mg) (hb:s₁.heap.Ns builtinsNs mb) (Ww:∀ x:Str,x≠"__name__"→mb x=bootBuiltins x) (Su:s₁.heap.NoLimit) (hg:s₁.gens = #[])
  (ha:s₁.heap.get? a=some { cls:=.type "list",data:=.seq vs.toArray }) (hi:IntsAre vs ns) (hl:ns.length≤sizeLine) (hr:bp k callerA)
  (F:∀ base:Heap,K.In base→base.Ns mainGlobals mg→cD P w K mg base CX k fa fd [x] sp) (NZ:∀ (s:Shared) (u:Value),BindsTo s fd ⟨[u],[]⟩ [(x,u)])
  (HI:∀ H:Hp,NY H→eI K H a (ns.map V.int)→sp [.ref a] H (fun v _=>v = .bl true) fun _ _ _=>False)
  (Wx:∀ H e s',CX [] H s₁ (fun _ _ _=>False) e s'→False) :
  codeAny (model P w) callerA (.call (.ref fa) ⟨[.ref a],[]⟩) (fun r s'=>r = .ok (.ret (.bool true))∧OldK s₁.heap s'.heap∧s'.os=s₁.os∧AllBare s'.gens) s₁:=by
 have rv:=qY hi
 have Sv:=hi.length
 have core:∀ H:Hp,NY H→eI K H a (ns.map V.int)→jt P w H s₁.heap→(∀ b,H b≠none→b=a)→(H a≠none→K.lookup a=none) →
   codeAny (model P w) callerA (.call (.ref fa) ⟨[.ref a],[]⟩) (fun r s'=>r = .ok (.ret (.bool true))∧OldK s₁.heap s'.heap∧s'.os=s₁.os∧AllBare s'.gens) s₁:=by
  intro H hO hS bC hA hK
  have yk:∀ {b:Addr} {o:Obj},s₁.heap.get? b=some o→H b=none→(rQ s₁.heap H).get? b=some o:=fun e n=>Bo e n
  have NG:∀ {b:Addr} {o:Obj} {es:Array DictEntry} {ep:Nat},s₁.heap.get? b=some o→o.data = .dict es ep→H b=none:=fun {b o es ep} e d=>by
   cases q:H b with
   | none=>rfl
   | some u =>
     have e':b=a:=hA b (by rw [q]; simp)
     subst e'
     rw [ha] at e; cases e
     have d':Data.seq vs.toArray _=Data.dict es ep:=d
     cases d'
  have QU:∀ {b:Addr} {m:Str→Option Value},s₁.heap.Ns b m→(rQ s₁.heap H).Ns b m:=fun {b m} ⟨o,es,ep,e,d,r⟩=>⟨o,es,ep,yk e (NG e d),d,r⟩
  have Vk:K.In (rQ s₁.heap H):=fun b o e=>yk (KX b o e) (by
   cases q:H b with
   | none=>rfl
   | some u =>
     have e':b=a:=hA b (by rw [q]; simp)
     subst e'
     rw [hK (by rw [q]; simp)] at e; cases e)
  have hM:Mod K mg (rQ s₁.heap H):=⟨Vk,QU Ss,⟨mb,QU hb,Ww⟩,let ⟨mc,h1,h2⟩:=Su; ⟨mc,QU h1,h2⟩⟩
  have e0:qe P w K mg (rQ s₁.heap H) callerA [] s₁ H:=⟨rfl,hM,fun b o e=>EK e,Nat.le_of_eq (zc _ _),trivial,fun b hb=>absurd (show b∈([]:List Addr) from hb) (by simp),bC,.of_eq hg⟩
  refine codeAny_mono ((F _ Vk (QU Ss)).run callerA [] s₁ H ⟨[.ref a],[]⟩ [.ref a] [.ref a] _ _ hr e0 (NZ s₁ (.ref a)) (.cons rfl .nil) (HI H hO hS)) fun r s' h=>?_
  cases r with
  | error e=>exact (Wx H e s' h).elim
  | ok fl =>
    cases fl with
    | ret u =>
      obtain ⟨v,H',os,bare,un,Sw,r',q⟩:=h
      have q':v = .bl true:=q
      subst q'
      obtain rfl:u=Value.bool true:=r'
      refine ⟨rfl,OldK.of_keep fun b o e=>?_,os,bare⟩
      cases q:H b with
      | none=>exact un.keep b o e q (by intro z; exact absurd (show b∈([]:List Addr) from z) (by simp)) (by simp)
      | some u =>
        rcases hO b with z | ⟨ob,xs,z⟩
        · rw [q] at z; cases z
        · have z2:=un.gG b ob _ z
          obtain ⟨e1,_⟩:=bC b _ z
          obtain ⟨e2,_⟩:=Sw b _ z2
          rw [e] at e1; cases e1
          exact e2
    | _=>exact False.elim h
 cases hk:K.lookup a with
 | some o =>
   have e:=KX a o hk
   rw [ha] at e
   cases e
   refine core (fun _=>none) (fun _=>.inl rfl) (.inr ⟨_,vs.toArray,_,hk,rfl,rfl,rfl,by rw [gB,Sv]; exact hl,by simpa using rv⟩) (fun b u z=>by have z':(none:Option HO)=some u:=z; cases z') (fun b z=>absurd rfl z) fun z=>absurd rfl z
 | none =>
   refine core (fun b=>if b=a then some (.tV { cls:=.type "list",data:=.seq vs.toArray } (.lst (ns.map V.int))) else none) (fun b=>?_) (.inl (.inr ⟨{ cls:=.type "list",data:=.seq vs.toArray },if_pos rfl⟩)) (fun b u z=>?_) (fun b z=>?_) fun _=>hk
   · by_cases hb:b=a
     · exact .inr ⟨_,_,if_pos hb⟩
     · exact .inl (if_neg hb)
   · by_cases hb:b=a
     · have z':=(if_pos hb).symm.trans z
       cases z'
       subst hb
       exact ⟨ha,by rw [b_]; exact hl,vs,_,rv,ha⟩
     · have z':=(if_neg hb).symm.trans z
       cases z'
   · by_cases hb:b=a
     · exact hb
     · exact absurd (if_neg hb) z
def inClass (s:Stmt) (j:Nat):Stmt:=match s with
 | .ClassDef _ _ _ body _ _ _ _ _ _ _=>body.getD j (.Pass ⟨0,0,0,0⟩)
 | _=>.Pass ⟨0,0,0,0⟩
def d_ (s:Stmt):Arguments:=match s with
 | .FunctionDef _ a _ _ _ _ _ _ _ _=>a
 | _=>{ posonlyargs:=[],args:=[],vararg:=none,kwonlyargs:=[],kw_defaults:=[],kwarg:=none,defaults:=[] }
def cf (s:Stmt):List Stmt:=match s with
 | .FunctionDef _ _ b _ _ _ _ _ _ _=>b
 | _=>[]
def aj (s:Stmt):Scope:=match s with
 | .FunctionDef _ _ _ _ _ _ sc _ _ _=>sc
 | _=>{ kind:=.function,names:=[],isGenerator:=false,isCoroutine:=false }
abbrev iK:v7:=fun _ _ _ _ _ _=>False
abbrev E0:XK:=fun _ _ _=>False
theorem ud {X:Cx}:Passes iK X E0:=fun _ _ _ _ _ _ _ h=>h.elim
structure Bf (K:PySem.W.Frag) (x qual:Str) (st:Stmt) (f:Addr) (fd:FuncData):Prop where
 ex:∃ (oc:Value) (od:Option Addr) (kV doc pm:Value) (an:Option Addr) (bD ct:Value) (yd:Array (Option Value)),
  fd=PySem.W.fnOf x qual (d_ st) (cf st) (aj st) .none kV doc pm an bD ct∧K.lookup f=some ⟨oc,od,.func fd,yd⟩∧PySem.W.codeIn K bD qual=true
 kp:PySem.W.keepIn K (.ref f)=true
section
variable {P:Program} {w:World} {K:PySem.W.Frag} {mg:Str→Option Value} {base:Heap}
theorem Bf.ok {x qual:Str} {st:Stmt} {f:Addr} {fd:FuncData} {N ps:List Str} {k:Nat} {sp:Sp} (F:Bf K x qual st f fd) (S:aI N ps (aj st)) (len:∀ vs H Q E,sp vs H Q E→vs.length=ps.length)
  (iG:∀ (bD:Value) (A:Around) (outer:List Env) (s:Shared) (H:Hp) (vs:List V) (Q:VK) (E:XK),bp k (A.deeper (envOfC qual (aj st) s.heap.objs.size f bD))→sp vs H Q E →
    ∃ t,nh (dB iK P w K mg base N qual (aj st) f bD A outer s H E).ni (cf st) t∧t { nx:=fun _ H'=>Q .bh H',rt:=Q } (start N vs) H):cD P w K mg base iK (k+1) f fd ps sp:=by
 obtain ⟨oc,od,kV,doc,pm,an,bD,ct,yd,rfl,lk,iA⟩:=F.ex
 refine HH lk iA S len fun A outer s H vs Q E hr HI=>?_
 obtain ⟨t,h,q⟩:=iG bD A outer s H vs Q E hr HI
 exact ⟨t,h.ni,q⟩
theorem Bf.binds {x qual:Str} {st:Stmt} {f:Addr} {fd:FuncData} {ps:List Str} (F:Bf K x qual st f fd)
  (h:∀ (kV doc pm:Value) (an:Option Addr) (bD ct:Value) (us:List Value),us.length=ps.length→bindArgs (PySem.W.fnOf x qual (d_ st) (cf st) (aj st) .none kV doc pm an bD ct) ⟨us,[]⟩=pure (ps.zip us)):Binds K fd ps []:=by
 obtain ⟨oc,od,kV,doc,pm,an,bD,ct,yd,rfl,lk,iA⟩:=F.ex
 exact .all (h kV doc pm an bD ct)
theorem r9 {x qual:Str} {st:Stmt} {f:Addr} {oc:Value} {od an:Option Addr} {yd:Array (Option Value)} {kV doc pm bD ct:Value} (l:K.lookup f=some ⟨oc,od,.func (PySem.W.fnOf x qual (d_ st) (cf st) (aj st) .none kV doc pm an bD ct),yd⟩)
 (c:PySem.W.codeIn K bD qual=true) (k:PySem.W.keepIn K (.ref f)=true):Bf K x qual st f (PySem.W.fnOf x qual (d_ st) (cf st) (aj st) .none kV doc pm an bD ct):=⟨⟨oc,od,kV,doc,pm,an,bD,ct,yd,rfl,l,c⟩,k⟩
end
theorem zm {n:Nat} (h:n≤1000):n < sizeLine:=Nat.lt_of_le_of_lt h (by decide)
section
variable {X:Cx}
theorem pv (i:Nat) {x:Str} {pos:Pos} (hN:X.N[i]?=some x:=by rfl) (hv:rR X.env.scope x:=by first | exact Or.inl rfl | exact Or.inr (Or.inl rfl) | exact Or.inr (Or.inr rfl)) (hd:gg x:=by decide)
 (iA:tZ x:=by decide):PE X (.Name x pos) (Jf i):=cQ hN hv hd iA
end
theorem N0 {A B:Prop} (h:B):if false=true then A else B:=by
 rw [if_neg nL]
 exact h
theorem N1 {A B:Prop} (h:A):if true=true then A else B:=by
 rw [if_pos rfl]
 exact h
theorem BK {c A B:Prop} [Decidable c] (h1:c→A) (h2:¬ c→B):if c then A else B:=by
 by_cases h:c
 · rw [if_pos h]
   exact h1 h
 · rw [if_neg h]
   exact h2 h
def aJ (H H':Hp):Prop:=∀ b o,H b=some o→H' b=some o
theorem aJ.refl (H:Hp):aJ H H:=fun _ _ h=>h
theorem aJ.trans {H H1 H2:Hp} (a:aJ H H1) (b:aJ H1 H2):aJ H H2:=fun c o h=>b c o (a c o h)
theorem aJ.free {H H':Hp} (e:aJ H H') {l:Addr} (h:H' l=Option.none):H l=Option.none:=by
 cases q:H l with
 | none=>rfl
 | some o =>
   rw [e l o q] at h
   cases h
theorem aJ.seq {K:PySem.W.Frag} {H H':Hp} {a:Addr} {xs:List V} (e:aJ H H') (h:eI K H a xs):eI K H' a xs:=by
 rcases h with (h | ⟨o,h⟩) | h
 · exact .inl (.inl (e _ _ h))
 · exact .inl (.inr ⟨o,e _ _ h⟩)
 · exact .inr h
section
theorem gJ {env:Env} {f:Str×NameKind→List (Str×Addr)→Sem (ForInStep (List (Str×Addr)))}:∀ (l:List (Str×NameKind)) (cs:List (Str×Addr)),
  (∀ p∈l,∀ r,(p.2 = .free→∃ c,env.cells.lookup p.1=some c∧f p r=pure (.yield ((p.1,c) :: r)))∧(p.2≠.free→f p r=pure (.yield r))) →
  ∃ cl,forIn l cs f=pure cl∧(∀ y c,cl.lookup y=some c→cs.lookup y=some c∨env.cells.lookup y=some c)∧(∀ y,(cs.lookup y).isSome=true→(cl.lookup y).isSome=true) ∧
   ∀ p∈l,p.2 = .free→(cl.lookup p.1).isSome=true
 | [],cs,_=>⟨cs,by rw [List.forIn_nil],fun _ _ h=>.inl h,fun _ h=>h,fun _ h=>nomatch h⟩
 | p :: l,cs,hf=>by
   have hr:∀ q∈l,∀ r,(q.2 = .free→∃ c,env.cells.lookup q.1=some c∧f q r=pure (.yield ((q.1,c) :: r)))∧(q.2≠.free→f q r=pure (.yield r)):=fun q hq r=>hf q (jc _ hq) r
   by_cases hp:p.2 = .free
   · obtain ⟨c,hc,e⟩:=(hf p jz cs).1 hp
     obtain ⟨cl,h1,h2,h3,h4⟩:=gJ l ((p.1,c) :: cs) hr
     refine ⟨cl,?_,fun y d h=>?_,fun y h=>h3 y ?_,fun q hq QV=>?_⟩
     · rw [List.forIn_cons,e]
       exact h1
     · rcases h2 y d h with z | z
       · rw [EI] at z
         cases hy:y == p.1 with
         | true =>
           rw [hy] at z
           have ey:y=p.1:=eq_of_beq hy
           cases z
           rw [ey]
           exact .inr hc
         | false=>rw [hy] at z; exact .inl z
       · exact .inr z
     · rw [EI]
       cases hy:y == p.1 with
       | true=>rfl
       | false=>exact h
     · rcases dS.mp hq with z | z
       · subst z
         refine h3 _ ?_
         rw [EI,beq_self_eq_true]
         rfl
       · exact h4 q z QV
   · have e:=(hf p jz cs).2 hp
     obtain ⟨cl,h1,h2,h3,h4⟩:=gJ l cs hr
     refine ⟨cl,?_,h2,h3,fun q hq QV=>?_⟩
     · rw [List.forIn_cons,e]
       exact h1
     · rcases dS.mp hq with z | z
       · subst z; exact absurd QV hp
       · exact h4 q z QV
theorem ij {scope:Scope} {env:Env} (h:∀ p∈scope.names,p.2 = .free→∃ c,env.cells.lookup p.1=some c) :
  ∃ cl,closureFor scope env=pure cl∧(∀ y c,cl.lookup y=some c→env.cells.lookup y=some c)∧∀ p∈scope.names,p.2 = .free→∃ c,cl.lookup p.1=some c:=by
 have key:∃ cl,closureFor scope env=pure cl∧(∀ y c,cl.lookup y=some c→([]:List (Str×Addr)).lookup y=some c∨env.cells.lookup y=some c)∧(∀ y,(([]:List (Str×Addr)).lookup y).isSome=true→(cl.lookup y).isSome=true) ∧
   ∀ p∈scope.names,p.2 = .free→(cl.lookup p.1).isSome=true:=by
  simp only [closureFor]
  have go:=@gJ env (fun x r=>if x.2 == NameKind.free then (do let c ← cellOf env x.1; pure (ForInStep.yield ((x.1,c) :: r))) else pure (ForInStep.yield r)) scope.names [] ?_
  · obtain ⟨cl,h1,h2⟩:=go
    refine ⟨cl,?_,h2⟩
    first
     | (show (forIn scope.names [] _ >>= fun cs=>pure cs)=_; rw [h1]; rfl)
     | (rw [h1]; rfl)
     | exact congrArg (· >>= pure) h1
  · intro p hp r
    refine ⟨fun hf=>?_,fun hf=>?_⟩
    · obtain ⟨c,hc⟩:=h p hp hf
      refine ⟨c,hc,?_⟩
      have e1:(p.2 == NameKind.free)=true:=by rw [hf]; rfl
      have e2:cellOf env p.1=pure c:=by unfold cellOf; rw [hc]
      rw [e1,if_pos rfl,e2]
      rfl
    · have e1:(p.2 == NameKind.free)=false:=by simpa using hf
      rw [e1,if_neg (by decide)]
 obtain ⟨cl,h1,h2,h3,h4⟩:=key
 refine ⟨cl,h1,fun y c e=>?_,fun p hp hf=>RC.mp (h4 p hp hf)⟩
 rcases h2 y c e with z | z
 · rw [List.lookup_nil] at z; cases z
 · exact z
theorem kq {scope:Scope} {env:Env} (y:Str):(relabel scope env).names.lookup y =
  (scope.names.lookup y).map fun k=>if (k == .free && env.scope.kind == .function && env.kindOf y == some .cell)=true then .cell else k:=by
 have key:∀ l:List (Str×NameKind),(l.map fun (n,k)=>if (k == NameKind.free && env.scope.kind == .function && env.kindOf n == some .cell) then (n,NameKind.cell) else (n,k)).lookup y =
   (l.lookup y).map fun k=>if (k == .free && env.scope.kind == .function && env.kindOf y == some .cell)=true then .cell else k:=by
  intro l
  induction l with
  | nil=>rfl
  | cons p l ih =>
    obtain ⟨n,k⟩:=p
    rw [jr]
    show List.lookup y ((if (k == NameKind.free && env.scope.kind == .function && env.kindOf n == some .cell)=true then (n,NameKind.cell) else (n,k)) :: _)=_
    by_cases hc:(k == NameKind.free && env.scope.kind == .function && env.kindOf n == some .cell)=true
    · rw [if_pos hc,EI,EI]
      cases hy:y == n with
      | true =>
        have ey:y=n:=eq_of_beq hy
        subst ey
        show some NameKind.cell=some (if _ then _ else _)
        rw [if_pos hc]
      | false=>exact ih
    · rw [if_neg hc,EI,EI]
      cases hy:y == n with
      | true =>
        have ey:y=n:=eq_of_beq hy
        subst ey
        show some k=some (if _ then _ else _)
        rw [if_neg hc]
      | false=>exact ih
 exact key scope.names
end
def jN (N ts:List Str) (out sc:Scope):Bool :=
 (sc.kind == .function) && sc.names.all (fun p=>(p.2 != .cell) && (p.2 != .free || out.names.lookup p.1 == some .cell || out.names.lookup p.1 == some .free) && (p.2 != .local || sc.names.lookup p.1 == some .local))
   && N.all (fun y=>sc.names.lookup y != some .local) && ts.all (fun y=>sc.names.lookup y == some .local) && decide ((N ++ ts).Nodup)
structure nU (N ts:List Str) (out sc:Scope):Prop where
 kind:sc.kind = .function
 BL:∀ p∈sc.names,p.2≠.cell
 fr:∀ p∈sc.names,p.2 = .free→out.names.lookup p.1=some .cell∨out.names.lookup p.1=some .free
 names:∀ p∈sc.names,p.2 = .local→sc.names.lookup p.1=some .local
 own:∀ y∈N,sc.names.lookup y≠some .local
 Zm:∀ y∈ts,sc.names.lookup y=some .local
 nd:(N ++ ts).Nodup
theorem qZ {N ts:List Str} {out sc:Scope} (h:jN N ts out sc=true):nU N ts out sc:=by
 unfold jN at h
 rw [iC,iC,iC,iC] at h
 obtain ⟨⟨⟨⟨h1,h2⟩,h3⟩,h4⟩,h5⟩:=h
 rw [y8] at h2 h3 h4
 refine ⟨eq_of_beq h1,fun p hp=>?_,fun p hp hf=>?_,fun p hp hl=>?_,fun y hy=>?_,fun y hy=>?_,of_decide_eq_true h5⟩
 · have:=h2 p hp
   rw [iC,iC] at this
   simpa using this.1.1
 · have:=h2 p hp
   rw [iC,iC] at this
   have q:=this.1.2
   rw [hf] at q
   simpa using q
 · have:=h2 p hp
   rw [iC,iC] at this
   have q:=this.2
   rw [hl] at q
   simpa using q
 · simpa using h3 y hy
 · simpa using h4 y hy
def bo (X:Cx) (ts:List Str) (sc:Scope) (cl:List (Str×Addr)) (C:Addr) (fp:List Addr) (s:Shared) (H:Hp):Cx where
 prog:=X.prog
 w:=X.w
 K:=X.K
 mg:=X.mg
 base:=X.base
 A:=X.A
 N:=X.N ++ ts
 s₀:=s
 H₀:=H
 env:=compEnvC sc cl C X.env
 outer:=X.stack
 stack:=X.stack
 ex:=fp
 fn:=fun _=>false
 calm:=X.calm
 pn:=[]
 xe:=fun _ _=>False
section
variable {X:Cx} {pins:List (Addr×Obj)} {σ:St} {H:Hp} {s:Shared} {ts:List Str} {sc:Scope} {cl:List (Str×Addr)} {C D:Addr} {fp:List Addr}
theorem q8 (hS:nU X.N ts X.env.scope sc) {y:Str} (h:rR (relabel sc X.env) y):sc.names.lookup y=some .local∨(sc.names.lookup y=some .free∧((relabel sc X.env).names.lookup y=some .cell∨(relabel sc X.env).names.lookup y=some .free)):=by
 have e:=kq (scope:=sc) (env:=X.env) y
 cases hk:sc.names.lookup y with
 | none =>
   rw [hk] at e
   have e':(relabel sc X.env).names.lookup y=none:=e
   rcases h with h | h | h <;> rw [e'] at h <;> cases h
 | some k =>
   have hm:(y,k)∈sc.names:=Ht hk
   rw [hk] at e
   cases k with
   | «local»=>exact .inl rfl
   | cell=>exact absurd rfl (hS.BL _ hm)
   | free =>
     refine .inr ⟨rfl,?_⟩
     rw [e,Option.map_some]
     by_cases hc:(NameKind.free == .free && X.env.scope.kind == .function && X.env.kindOf y == some .cell)=true
     · rw [if_pos hc]; exact .inl rfl
     · rw [if_neg hc]; exact .inr rfl
   | globalExplicit =>
     have e':(relabel sc X.env).names.lookup y=some .globalExplicit:=e
     rcases h with h | h | h <;> rw [e'] at h <;> cases h
   | globalImplicit =>
     have e':(relabel sc X.env).names.lookup y=some .globalImplicit:=e
     rcases h with h | h | h <;> rw [e'] at h <;> cases h
theorem yl (I:Inv X pins σ H s) (hf:∀ b∈fp,lg X pins H b):∀ b∈fp,b∉ke X.stack:=fun b hb z=>by
 obtain ⟨_,f1,f2,_⟩:=hf b hb
 rcases dS.mp (I.vR b z) with e | e
 · exact f1 e
 · exact f2 e
theorem Fe (I:Inv X pins σ H s) (hf:∀ b∈fp,lg X pins H b) (JY:∀ b∈fp,∃ o,s.heap.get? b=some o) (hS:nU X.N ts X.env.scope sc)
  (c1:∀ y c,cl.lookup y=some c→X.env.cells.lookup y=some c) (c2:∀ p∈sc.names,p.2 = .free→∃ c,cl.lookup p.1=some c)
  (hC:s.heap.objs.size≤C) (hD:s.heap.objs.size≤D) (QW:D≠C) {h1:Heap} {m:Str→Option Value} {n:Nat} {t:Nat} (k:∀ b o,s.heap.get? b=some o→h1.get? b=some o) (hn:h1.Ns C m)
  (hd:h1.get? D=some { cls:=.type "list",data:=.seq ([]:List Value).toArray n }) :
  Inv (bo X ts sc cl C fp s H) [] (σ ++ ts.map fun _=>none) (upd H D (.lst [])) { s with heap:=h1,toks:=t }:=by
 have sz:=I.sz
 have Sx:∀ b∈fp,b < s.heap.objs.size:=fun b hb=>by obtain ⟨o,e⟩:=JY b hb; exact dq e
 have Bq:∀ y c,cl.lookup y=some c→c < s.heap.objs.size:=fun y c e=>by obtain ⟨v,q⟩:=I.cell y c (c1 y c e); exact q.lt
 have ok:(bo X ts sc cl C fp s H).Ok:=by
  refine ⟨I.ok.mod,hS.kind,I.ok.glob,I.ok.blt,hC,fun x y c e1 e2=>I.ok.inj x y c (c1 x c e1) (c1 y c e2),fun x hx=>?_,fun x c hx=>absurd hx (by simp [bo]),I.ok.hd,I.ok.frames,.inl rfl,fun b hb=>?_,fun b o e=>I.bs b o e,
   mD I.ok.Ba sz,fun b o e hb=>?_,yl I hf,I.stack,fun b hb=>I.ng b hb⟩
  · have hv:rR (relabel sc X.env) x:=by
     rcases hx with hx | hx
     · exact .inr (.inl hx)
     · exact .inr (.inr hx)
    rcases q8 hS hv with z | ⟨z,_⟩
    · have e:=kq (scope:=sc) (env:=X.env) x
      rw [z] at e
      have e':(relabel sc X.env).names.lookup x=some .local:=e
      have My:(relabel sc X.env).names.lookup x=some .cell∨(relabel sc X.env).names.lookup x=some .free:=hx
      rw [e'] at My
      rcases My with q | q <;> cases q
    · exact c2 _ (Ht z) rfl
  · exact ⟨fun e=>absurd (m_ (Sx b hb) hC) (by have e':b=C:=e; rw [e']; exact Ej _),fun x c e z=>(hf b hb).2.2.2.2.1 x c (c1 x c e) z⟩
  · rcases (hf b hb).2.2.2.1 with z | z
    · exact I.ok.zd b o e z
    · exact absurd (m_ (dq e) (mD I.ok.Ba z)) (Ej _)
 have Wy:H D=none:=I.bC.fresh hD
 refine ⟨ok,rfl,I.bare,Un.laid k hD Wy,⟨m,hn,fun i x v e1 e2 e3=>?_⟩,fun x c e=>?_,?_,fun x c e=>?_,fun p hp=>absurd (show p∈([]:List (Addr×Obj)) from hp) (by simp),I.bC.laid k hD ⟨kd _,[],n,.nil,hd⟩,?_⟩
 · have hi:i < σ.length:=by
    by_cases hi:i < σ.length
    · exact hi
    · rw [EE (by omega),k9] at e2
      cases q:ts[i - σ.length]? with
      | none=>rw [q] at e2; cases e2
      | some a=>rw [q] at e2; cases e2
   have Eo:σ[i]?=some (some v):=by rw [vI hi] at e2; exact e2
   have Vl:X.N[i]?=some x:=by
    have N2:(X.N ++ ts)[i]?=some x:=e1
    rw [vI (by rw [← I.len]; exact hi)] at N2
    exact N2
   rcases q8 hS e3 with z | ⟨z,zr⟩
   · exact absurd z (hS.own x (mY Vl))
   · have hm:=Ht z
     have ho:=hS.fr _ hm rfl
     obtain ⟨m0,_,hl⟩:=I.loc
     obtain ⟨u,r,l⟩:=hl i x v Vl Eo (.inr ho)
     obtain ⟨c',Ng⟩:=c2 _ hm rfl
     rcases l with ⟨l,_⟩ | ⟨_,c,hc,z2⟩
     · have l':X.env.scope.names.lookup x=some .local:=l
       rw [l'] at ho
       rcases ho with q | q <;> cases q
     · have ec:=c1 x c' Ng
       rw [hc] at ec
       cases ec
       exact ⟨u,r,.inr ⟨zr,_,Ng,z2.keeps k⟩⟩
 · obtain ⟨v,z⟩:=I.cell x c (c1 x c e)
   exact ⟨v,z.keeps k⟩
 · show upd H D (.lst []) C=none
   rw [aH (Ne.symm QW)]
   exact I.bC.fresh hC
 · show upd H D (.lst []) c=none
   rw [aH (gF (m_ (Bq x c e) hD))]
   exact I.d7 x c (c1 x c e)
 · show (σ ++ ts.map fun _=>none).length=(X.N ++ ts).length
   rw [mf,mf,b_,I.len]
theorem ue (I:Inv X pins σ H s) (hf:∀ b∈fp,lg X pins H b) {x_:List (Addr×Obj)} {σ':St} {H':Hp} {s':Shared} (J:Inv (bo X ts sc cl C fp s H) x_ σ' H' s'):Inv X pins σ H' s' :=
 I.Bs J.os J.base J.bC J.bare fun b hb=>by
  obtain ⟨_,f1,_,f3,f4,f5⟩:=hf b hb
  exact ⟨f3,f1,f4,f5⟩
end
section
variable {prog:Program} {w:World} {A:Around} {R:Result→Shared→Prop} {s:Shared}
theorem jw {elt target iter:Expr} {ifs:List Expr} {scope:Scope} {pos:Pos} {it acc:Value} {env:Env} (I:Nat→Shared→Prop)
  (turn:∀ n s,I n s→wpAny (model prog w) A (pyNext it) (fun r s₁=>match r with
    | none=>R (.ok .next) s₁
    | some v=>wpAny (model prog w) A (letOwnedTupleGo target it v) (fun _ Vm=>wpAny (model prog w) A (assign target env v) (fun _ s₂ =>
       wpAny (model prog w) A (forIn ifs true fun c r=>if r=true then do let ok ← isTrue c env (eval c env); pure (ForInStep.yield ok) else pure (ForInStep.yield r)) (fun ok s₃ =>
        if ok=true then wpAny (model prog w) A (eval elt env) (fun x s₄ =>
         wpAny (model prog w) A (call (.builtin "list.append") [acc,x]) (fun _ s₅=>∃ m,m < n∧I m s₅) (notedBy (model prog w) A env fun e s'=>R (.error e) s') s₄) (notedBy (model prog w) A env fun e s'=>R (.error e) s') s₃
        else ∃ m,m < n∧I m s₃) (notedBy (model prog w) A env fun e s'=>R (.error e) s') s₂) (notedBy (model prog w) A env fun e s'=>R (.error e) s') Vm)
       (notedBy (model prog w) A env fun e s'=>R (.error e) s') s₁) (notedBy (model prog w) A env fun e s'=>R (.error e) s') s)
  (n:Nat) (h:I n s):codeAny (model prog w) A (.compLoop (.ListComp elt [⟨target,iter,ifs,0⟩] scope pos) 0 it acc env) R s:=by
 refine codeAny_loop rfl I (fun n s hI=>?_) n h
 show wpAny _ A ((compTurn (.ListComp elt [⟨target,iter,ifs,0⟩] scope pos) 0 it acc env).onRaise (fun x=>do noteFrame x env; theTreesLotGoes x)) _ _ s
 refine wpAny_noted ?_
 rw [compTurn_list]
 refine wpAny_bind (wpAny_standAt (wpAny_bind (wpAny_mono (turn n s hI) (fun r s₁ h₁=>?_) fun _ _ h'=>h')))
 cases r with
 | none=>exact wpAny_pure h₁
 | some v =>
   refine wpAny_bind (wpAny_mono h₁ (fun _ Vm Wz=>?_) fun _ _ h'=>h')
   refine wpAny_bind (wpAny_mono Wz (fun _ s₂ h₂=>wpAny_bind (wpAny_mono h₂ (fun ok s₃ h₃=>?_) fun _ _ h'=>h')) fun _ _ h'=>h')
   cases ok with
   | false=>exact wpAny_pure ⟨rfl,h₃⟩
   | true =>
     exact wpAny_bind (wpAny_bind (wpAny_mono h₃ (fun x s₄ h₄=>wpAny_bind (wpAny_mono h₄ (fun _ s₅ h₅=>wpAny_pure (wpAny_pure ⟨rfl,h₅⟩)) fun _ _ h'=>h')) fun _ _ h'=>h'))
end
def Ep (X:Cx) (ifs:List Expr) (t:TT):Prop :=
 ∀ (pins:List (Addr×Obj)) (s:Shared) (σ:St) (H:Hp) (Q:Bool→Hp→Prop),Inv X pins σ H s→t σ H Q →
  wpAny (model X.prog X.w) X.A (forIn ifs true fun c r=>if r=true then do let ok ← isTrue c X.env (eval c X.env); pure (ForInStep.yield ok) else pure (ForInStep.yield r)) (TP X pins σ Q) X.xe s
def Sy:TT:=fun _ H Q=>Q true H
theorem Ff {X:Cx}:Ep X [] Sy:=fun _ _ _ H _ I h=>wpAny_tests_nil ⟨H,I,h⟩
def uf (J:It) (g:TG) (tt:TT) (te:TE) (n:Nat) (σ:St) (D:Addr) (Q:Hp→Prop) (H1:Hp):Prop :=
 ∃ W:Nat→Nat→List V→Hp→Prop,(∃ m,W 0 m [] (upd H1 D (.lst [])))∧∀ i m acc H2,W i m acc H2→H2 D=some (.lst acc) ∧
  ((J.stop i H2∧Q H2)∨(J.go i H2∧acc.length < sizeLine∧∀ x H3,J.Mw i H2 x H3→g x (σ ++ List.replicate n none) H3 fun σ4 H4=>(σ4.length=σ.length+n∧∀ (i:Nat) v,σ[i]?=some (some v)→σ4[i]?=some (some v)) ∧
    tt σ4 H4 fun b H5=>if b=true then te σ4 H5 fun y H6=>H6 D=some (.lst acc)∧∃ m',m' < m∧W (i+1) m' (acc ++ [y]) (upd H6 D (.lst (acc ++ [y]))) else ∃ m',m' < m∧W (i+1) m' acc H5))
section
variable {X:Cx} {pins:List (Addr×Obj)} {σ:St} {H:Hp} {s:Shared} {ts:List Str} {sc:Scope} {cl:List (Str×Addr)} {fp:List Addr}
theorem zo {Y:Cx} {pl:List (Addr×Obj)} {σ4:St} {H':Hp} {s':Shared} {n:Nat} (I:Inv Y pl σ4 H' s') (hl:σ4.length=σ.length+n) (hs:∀ (i:Nat) v,σ[i]?=some (some v)→σ4[i]?=some (some v)) :
  Inv Y pl (σ ++ List.replicate n none) H' s':=by
 refine I.weak (by rw [mf,EF,hl]) fun i v e=>?_
 by_cases hi:i < σ.length
 · rw [vI hi] at e
   exact hs i v e
 · rw [EE (by omega),IQ] at e
   split at e <;> cases e
theorem ug {elt iter tg:Expr} {ifs:List Expr} {pos:Pos} {it:Addr} {tn:Nat→Heap→Prop} {J:It} {g:TG} {tt:TT} {te:TE} {Q:Hp→Prop} {RR:Value→Addr→Result→Shared→Prop} {E:Value→Shared→Prop}
  (hc:X.calm=true) (I:Inv X pins σ H s) (T:Turn X.prog X.w X.K tg J fp it tn) (st:tn 0 s.heap) (hf:∀ b∈fp,lg X pins H b) (hS:nU X.N ts X.env.scope sc)
  (c1:∀ y c,cl.lookup y=some c→X.env.cells.lookup y=some c) (c2:∀ p∈sc.names,p.2 = .free→∃ c,cl.lookup p.1=some c)
  (hg:∀ C,PG (bo X ts sc cl C fp s H) tg g) (ht:∀ C,Ep (bo X ts sc cl C fp s H) ifs tt) (he:∀ C,PE (bo X ts sc cl C fp s H) elt te)
  (hw:uf J g tt te ts.length σ s.heap.objs.size Q H)
  (fin:∀ (C:Addr) (H':Hp) (s':Shared) (σ':St),s.heap.objs.size≤C→Inv (bo X ts sc cl C fp s H) [] σ' H' s'→Q H'→RR (.ref s.heap.objs.size) C (.ok .next) s') :
  wpAny (model X.prog X.w) X.A (newList []) (fun acc s₃=>wpAny (model X.prog X.w) X.A (newFunctionEnv sc X.env.globals cl [] X.env.qual none .none (some X.env)) (fun N3 s₄ =>
   codeAny (model X.prog X.w) X.A (.compStart (.ListComp elt [⟨tg,iter,ifs,0⟩] sc pos) 0 (.ref it) acc { N3 with scope:=relabel sc X.env }) (RR acc N3.locals) s₄) E s₃) E s:=by
 obtain ⟨W,⟨m0,w0⟩,turn⟩:=hw
 have Sz:=T.obj 0 _ st
 have JY:∀ b∈fp,∃ o,s.heap.get? b=some o:=fun b hb=>let ⟨o,e,_⟩:=Sz b hb; ⟨o,e⟩
 refine wpAny_newObj_type (wpAny_newFunctionEnv hS.BL (by intro y hy; simp at hy) (fun h₁ JZ Fg=>?_) hS.kind)
 dsimp only at JZ Fg ⊢
 generalize SA:s.heap.push { cls:=.type "list",dict:=none,data:=.seq ([]:List Value).toArray }=H2 at JZ Fg ⊢
 have hC:H2.objs.size=s.heap.objs.size+1:=by rw [← SA,vO]
 have QW:s.heap.objs.size≠H2.objs.size:=by rw [hC]; exact gF (IU _)
 have N4:s.heap.objs.size≤H2.objs.size:=by rw [hC]; exact IZ _
 have below:∀ b,b < s.heap.objs.size→b≠H2.objs.size∧b≠s.heap.objs.size:=fun b hb=>⟨by rw [hC]; exact gF (M9 hb),gF hb⟩
 have old:∀ b o,s.heap.get? b=some o→h₁.get? b=some o:=fun b o e=>Fg.extBut b o (below b (dq e)).1 (cY _ (SA▸cY _ e))
 have SD:h₁.get? s.heap.objs.size=some { cls:=.type "list",data:=.seq ([]:List Value).toArray }:=Fg.extBut _ _ QW (cY _ (SA▸m9 _ rfl))
 have N5:tn 0 h₁:=T.keep _ _ _ st fun b hb o e=>old b o e
 have fresh:H s.heap.objs.size=none:=I.bC.fresh (du _)
 have r_:∀ {H':Hp},(∀ b∈fp,H' b=none)→∀ b∈fp,lg (bo X ts sc cl H2.objs.size fp s H) [] H' b:=fun {H'} hn b hb=>by
  obtain ⟨o,e⟩:=JY b hb
  refine ⟨hn b hb,fun z=>?_,yl I hf b hb,.inl hb,fun x c e z=>(hf b hb).2.2.2.2.1 x c (c1 x c e) z,fun p hp=>absurd (show p∈([]:List (Addr×Obj)) from hp) (by simp)⟩
  have z':b=H2.objs.size:=z
  exact (below b (dq e)).1 z'
 have WA:∀ b∈fp,(upd H s.heap.objs.size (.lst [])) b=none:=fun b hb=>by
  obtain ⟨o,e⟩:=JY b hb
  rw [aH (gF (dq e))]
  exact (hf b hb).1
 have eN:(ts.map fun _=>(none:Option V))=List.replicate ts.length none:=List.map_const'
 have loop:∀ s₃:Shared,s₃={ s with heap:=h₁,toks:=s.toks+([]:List (Str×Value)).length } →
   codeAny (model X.prog X.w) X.A (.compLoop (.ListComp elt [⟨tg,iter,ifs,0⟩] sc pos) 0 (.ref it) (.ref s.heap.objs.size) (compEnvC sc cl H2.objs.size X.env)) (RR (.ref s.heap.objs.size) H2.objs.size) s₃:=by
  rintro s₃ rfl
  have J0:=Fe (ts:=ts) (t:=s.toks+([]:List (Str×Value)).length) I hf JY hS c1 c2 N4 (du _) QW old JZ SD
  rw [eN] at J0
  refine jw (fun n s'=>∃ i acc H',Inv (bo X ts sc cl H2.objs.size fp s H) [] (σ ++ List.replicate ts.length none) H' s'∧tn i s'.heap∧(∀ b∈fp,H' b=none)∧W i n acc H') ?_ m0 ⟨0,[],_,J0,N5,WA,w0⟩
  rintro n s3 ⟨i,acc,H3,J3,Nu,Nv,w3⟩
  obtain ⟨Zn,alt⟩:=turn i n acc H3 w3
  rcases alt with ⟨stop,q⟩ | ⟨go,hz,step⟩
  · refine bT (T.done (bo X ts sc cl H2.objs.size fp s H) rfl rfl rfl hc i [] s3 _ H3 _ J3 (r_ Nv) Nu stop) fun r s4 ⟨hr,J4⟩=>?_
    subst hr
    exact fin _ H3 s4 _ N4 J4 q
  · refine bT (T.item (bo X ts sc cl H2.objs.size fp s H) rfl rfl rfl hc i [] s3 _ H3 _ J3 (r_ Nv) Nu go) fun r s4 ⟨u,hr,h4⟩=>?_
    subst hr
    refine bT h4 fun _ s5 ⟨x,H5,J5,r5,y5,Jv,Sd⟩=>?_
    have WB:=J5.pinned (r_ Sd) (T.obj _ _ Jv)
    have again:∀ {σ7:St} {H7:Hp} {s7:Shared},Inv (bo X ts sc cl H2.objs.size fp s H) ([] ++ nO fp s5.heap) σ7 H7 s7→(σ7.length=σ.length+ts.length∧∀ (i:Nat) v,σ[i]?=some (some v)→σ7[i]?=some (some v))→∀ J_ m',W (i+1) m' J_ H7→m' < n →
      ∃ m,m < n∧∃ i acc H',Inv (bo X ts sc cl H2.objs.size fp s H) [] (σ ++ List.replicate ts.length none) H' s7∧tn i s7.heap∧(∀ b∈fp,H' b=none)∧W i m acc H':=fun {σ7 H7 s7} I7 hσ J_ m' w7 hm=>by
     refine ⟨m',hm,i+1,J_,H7,zo I7.kh hσ.1 hσ.2,T.keep _ _ _ Jv fun b hb o e=>(I7.pin (b,o) (k8 _ (k8 _ (gH hb e)))).1,fun b hb=>?_,w7⟩
     obtain ⟨o,e,d⟩:=T.obj _ _ Jv b hb
     exact (I7.pin (b,o) (k8 _ (k8 _ (gH hb e)))).2.1
    refine wpAny_mono (hg H2.objs.size _ s5 _ H5 x u _ WB r5 (step x H5 y5)) (fun _ s6 ⟨σ6,H6,J6,hσ,q6⟩=>?_) fun _ _ z=>False.elim z
    refine wpAny_mono (ht H2.objs.size _ s6 σ6 H6 _ J6 q6) (fun b s7 ⟨H7,J7,q7⟩=>?_) fun _ _ z=>False.elim z
    cases b with
    | false =>
      obtain ⟨m',hm,w7⟩:=q7
      exact again J7 hσ acc m' w7 hm
    | true =>
      show wpAny _ _ _ _ _ _
      refine wpAny_mono (he H2.objs.size _ s7 σ6 H7 _ J7 q7) (fun y s8 ⟨yv,H8,J8,ry,WC,m',hm,w8⟩=>?_) fun _ _ z=>False.elim z
      refine wpAny_mono (bg (X:=bo X ts sc cl H2.objs.size fp s H) _ s8 σ6 H8 (.ref s.heap.objs.size) [yv] (.ref s.heap.objs.size) [y] (fun v H9=>v = .bh∧H9=upd H8 s.heap.objs.size (.lst (acc ++ [yv]))) J8 rfl (.cons ry .nil) ⟨_,acc,yv,rfl,rfl,WC,hz,rfl,rfl⟩) (fun v9 s9 ⟨v,H9,J9,_,_,e9⟩=>?_) fun _ _ z=>False.elim z
      subst e9
      exact again J9 hσ (acc ++ [yv]) m' w8 hm
 exact codeAny_compStart_list (loop _ rfl) (T.self _ 0 _ _ _ N5 (loop _ rfl))
def BM (n:Nat) (wi:TI) (g:TG) (tt:TT) (te:TE):TE:=fun σ H Q=>wi σ H fun J H1=>∀ D,H1 D=none→uf J g tt te n σ D (Q (.ref D)) H1
theorem uh (I:Inv X pins σ H s) (hS:nU X.N ts X.env.scope sc):∀ p∈sc.names,p.2 = .free→∃ c,X.env.cells.lookup p.1=some c:=fun p hp hf=>by
 rcases hS.fr p hp hf with z | z
 · exact I.ok.has p.1 (.inl z)
 · exact I.ok.has p.1 (.inr z)
theorem Fh {elt iter tg:Expr} {ifs:List Expr} {pos:Pos} {wi:TI} {g:TG} {tt:TT} {te:TE} (hc:X.calm=true) (hS:jN X.N ts X.env.scope sc=true) (hi:PI X tg iter wi)
  (hg:∀ cl C fp s H,PG (bo X ts sc cl C fp s H) tg g) (ht:∀ cl C fp s H,Ep (bo X ts sc cl C fp s H) ifs tt) (he:∀ cl C fp s H,PE (bo X ts sc cl C fp s H) elt te)
  (hs:∀ x,foldedSetIterable iter X.env x=pure x:=by intro _; rfl):PE X (.ListComp elt [⟨tg,iter,ifs,0⟩] sc pos) (BM ts.length wi g tt te):=by
 intro pins s σ H Q I h
 have S:=qZ hS
 obtain ⟨cl,BN,c1,c2⟩:=ij (uh I S)
 rw [eval_ListComp]
 refine wpAny_comprehension_free (use:=none) rfl hs BN S.kind S.names ?_
 refine bT (hi pins s σ H _ I h) fun v s1 h1=>bT h1 fun QO s2 h2=>?_
 obtain ⟨it,fp,tn,J,H2,e,I2,T,Bb,f2,q2⟩:=h2
 subst e
 refine ug (E:=X.xe) (RR:=fun acc C=>compPost (model X.prog X.w) X.A X.xe none (EP X pins σ Q) acc C) hc I2 T Bb f2 S c1 c2 (fun C=>hg cl C fp s2 H2) (fun C=>ht cl C fp s2 H2) (fun C=>he cl C fp s2 H2) (q2 _ (I2.bC.fresh (du _))) ?_
 intro C H' s' σ' hC J' q'
 obtain ⟨m,hn,_⟩:=J'.loc
 refine ⟨m,hn,fun h' sb=>?_⟩
 have I':=ue I2 f2 J'
 have fk:=I2.qc (H':=H') hC J'.free
 obtain ⟨f0,f1,_,f3,f4,f5⟩:=fk
 exact ⟨.ref _,H',I'.turned (t':=s'.toks) (fun b o hb e=>(sb.2 b hb).trans e) f0 f1 f3 f4 f5,rfl,q'⟩
theorem Fi {i:Nat} {y:Str} {py:Pos} {ui:Pos} {elt iter tg:Expr} {ifs:List Expr} {pos:Pos} {wi:TI} {g:TG} {tt:TT} {te:TE} (hN:X.N.Nodup) (hy:X.N[i]?=some y) (hx:Loc X.env.scope y) (hc:X.calm=true) (hS:jN X.N ts X.env.scope sc=true) (hi:PI X tg iter wi)
  (hg:∀ cl C fp s H,PG (bo X ts sc cl C fp s H) tg g) (ht:∀ cl C fp s H,Ep (bo X ts sc cl C fp s H) ifs tt) (he:∀ cl C fp s H,PE (bo X ts sc cl C fp s H) elt te)
  (N6:swapsWith (.ListComp elt [⟨tg,iter,ifs,0⟩] sc pos) (some (.Name y py)) ui.line X.env=pure true:=by rfl)
  (hs:∀ x,foldedSetIterable iter X.env x=pure x:=by intro _; rfl) (hf:X.fn y=true∨X.env.scope.names.lookup y=some .local:=by first | exact .inl rfl | exact .inr rfl | assumption) :
  PS X (.Assign [.Name y py] (.ListComp elt [⟨tg,iter,ifs,0⟩] sc pos) ui) (EW (BM ts.length wi g tt te) (ig i)):=by
 intro pins s σ H D I h
 have S:=qZ hS
 obtain ⟨cl,BN,c1,c2⟩:=ij (uh I S)
 rw [exec_Assign_Name_used _ _ _ _ N6]
 refine wpAny_bind (wpAny_standAt (wpAny_bind ?_))
 show wpAny _ X.A (do let _ ← comprehension (.ListComp elt [⟨tg,iter,ifs,0⟩] sc pos) sc X.env _ (newList []) false (eval iter X.env) (some (assign (.Name y py) X.env))) _ _ s
 refine wpAny_bind (wpAny_mono (wpAny_comprehension_free (use:=some (assign (.Name y py) X.env)) (Q:=fun _ s'=>SP X pins D .next s') (E:=X.xe) rfl hs BN S.kind S.names ?_) (fun _ s' hq=>wpAny_pure (wpAny_pure hq)) fun _ _ e=>e)
 refine bT (hi pins s σ H _ I h) fun v s1 h1=>bT h1 fun QO s2 h2=>?_
 obtain ⟨it,fp,tn,J,H2,e,I2,T,Bb,f2,q2⟩:=h2
 subst e
 refine ug (E:=X.xe) (RR:=fun acc C=>compPost (model X.prog X.w) X.A X.xe (some (assign (.Name y py) X.env)) (fun _ s'=>SP X pins D .next s') acc C) hc I2 T Bb f2 S c1 c2 (fun C=>hg cl C fp s2 H2) (fun C=>ht cl C fp s2 H2) (fun C=>he cl C fp s2 H2) (q2 _ (I2.bC.fresh (du _))) ?_
 intro C H' s' σ' hC J' q'
 obtain ⟨m,hn,_⟩:=J'.loc
 have I':=ue I2 f2 J'
 have fk:=I2.qc (H':=H') hC J'.free
 obtain ⟨f0,f1,_,f3,f4,f5⟩:=fk
 show wpAny _ X.A (assign (.Name y py) X.env (.ref s2.heap.objs.size)) _ _ s'
 refine wpAny_assign_Name (qS (v:=.ref s2.heap.objs.size) I' hN hy hx rfl (fun s3 I3 ⟨a,sb,ha⟩=>?_) hf)
 have WD:C≠a:=by
  rcases ha with z | z
  · rw [z]; exact f1
  · exact fun e=>f4 y a z e.symm
 refine ⟨m,hn.sameBut sb WD,fun h' WE=>?_⟩
 exact ⟨_,H',I3.turned (t':=s3.toks) (fun b o hb e=>(WE.2 b hb).trans e) f0 f1 f3 f4 f5,q'⟩
end
def QX (x:Str):It:=⟨fun i _=>i < x.cps.size,fun i H v H'=>H'=H∧∃ c,x.cps[i]?=some c∧v = .str ⟨#[c]⟩,fun i _=>x.cps.size≤i⟩
theorem cJ (x:Str):(strIterType x="str_ascii_iterator")∨(strIterType x="str_iterator"):=by
 unfold strIterType
 cases x.cps.all (· < 128)
 · exact .inr rfl
 · exact .inl rfl
theorem BO {P:Program} {w:World} {K:PySem.W.Frag} {tg:Expr} (x:Str) (t:Tok) (it:Addr):Turn P w K tg (QX x) [it] it (fun i h=>h.IsStrIter it (strIterType x) x t i) where
 mem:=by simp
 obj:=fun i h st b hb=>by
  have e:b=it:=by simpa using hb
  subst e
  obtain ⟨o,e,c,d⟩:=st
  exact ⟨o,e,fun v z=>by rw [d] at z; cases z⟩
 keep:=fun i h h' st k=>by
  obtain ⟨o,e,c,d⟩:=st
  exact ⟨o,k it (by simp) o e,c,d⟩
 item:=by
  intro X hP hw hK hc i pins s σ H E I hf st hg
  subst hP hw hK
  obtain ⟨f0,f1,f2,f3,f4,f5⟩:=hf it (by simp)
  have hi:i < x.cps.size:=hg
  have hx:x.cps[i]?=some x.cps[i]:=by simp [hi]
  have fin:∀ h',h'.IsStrIter it (strIterType x) x t (i+1)→Heap.SameBut it s.heap h'→∃ u,(some (Value.str ⟨#[x.cps[i]]⟩ s.toks):Option Value)=some u ∧
    wpAny (model X.prog X.w) X.A (letOwnedTupleGo tg (.ref it) u) (fun _ s2=>∃ y H',Inv X pins σ H' s2∧RelV y u∧(QX x).Mw i H y H'∧Heap.IsStrIter s2.heap it (strIterType x) x t (i+1)∧∀ b∈[it],H' b=none) E { s with heap:=h',toks:=s.toks+1 }:=fun h' vT sb=>by
   have I1:Inv X pins σ H { s with heap:=h',toks:=s.toks+1 }:=I.turned (t':=s.toks+1) (fun b o hb e=>(sb.2 b hb).trans e) f0 f1 f3 f4 f5
   obtain ⟨o,e,c,d⟩:=id vT
   refine ⟨_,rfl,yb (s:={ s with heap:=h',toks:=s.toks+1 }) e c d ?_ ⟨.str ⟨#[x.cps[i]]⟩,H,I1,⟨_,rfl⟩,⟨rfl,_,hx,rfl⟩,vT,fun b hb=>(hf b hb).1⟩⟩
   rcases cJ x with z | z <;> rw [z] <;> decide
  rcases cJ x with z | z
  · rw [z] at st fin
    refine wpAny_pyNext_ascii_item st hx fun h' vT sb=>?_
    have:=fin h' vT sb
    rw [← z] at this
    simpa [z] using this
  · rw [z] at st fin
    refine wpAny_pyNext_wide_item st hx fun h' vT sb=>?_
    have:=fin h' vT sb
    simpa [z] using this
 done:=by
  intro X hP hw hK hc i pins s σ H E I hf st hg
  subst hP hw hK
  obtain ⟨f0,f1,f2,f3,f4,f5⟩:=hf it (by simp)
  have hi:x.cps.size≤i:=hg
  have hx:x.cps[i]?=none:=by simp [hi]
  rcases cJ x with z | z
  · rw [z] at st
    exact wpAny_pyNext_ascii_end (I.ok.hd hc) st hx fun h' eb=>⟨rfl,I.turned (t':=s.toks) (fun b o hb e=>eb b o hb e) f0 f1 f3 f4 f5⟩
  · rw [z] at st
    exact wpAny_pyNext_wide_end (I.ok.hd hc) st hx fun h' eb=>⟨rfl,I.turned (t':=s.toks) (fun b o hb e=>eb b o hb e) f0 f1 f3 f4 f5⟩
 self:=fun A i s Q E st h=>by
  rcases cJ x with z | z
  · rw [z] at st; exact wpAny_pyIter_striter_ascii st h
  · rw [z] at st; exact wpAny_pyIter_striter_wide st h
section
variable {X:Cx} {tg:Expr}
theorem cZ (hc:X.calm=true):cU X (.builtin "all") (fun xs H Q=>∃ (p:Addr) (bs:List Bool),xs=[.ref p]∧eI X.K H p (bs.map V.bl)∧Q (.bl (bs.all id)) H):=by
 intro pins s σ H xs us Q I r h
 obtain ⟨p,bs,rfl,hq,q⟩:=h
 obtain ⟨u,rfl,rx⟩:=vals1 r
 cases rx
 obtain ⟨aK,rv,pl,hz⟩:=I.list hq
 refine call_all_walk (wpAny_pyIter_list pl.isList ?_)
 have fN:p < s.heap.objs.size:=by obtain ⟨o,n,e,_⟩:=pl; exact dq e
 have pZ:p≠s.heap.objs.size:=gF fN
 have hh:X.A.in1.handled=none:=I.ok.hd hc
 refine ⟨s.heap.objs.size,_,_,_,_,_,fun i=>bs.getD i true,rfl,Walks.list hh s.heap.objs.size p pZ aK.toArray,⟨⟨_,m9 _ rfl,rfl,rfl⟩,pl.isList.push _⟩,?_,fun h' tk k=>?_⟩
 · intro i v s' Q' E' hP hQ
   have Vn:aK[i]?=some v:=by simpa using hP
   have hb:i < bs.length:=by
    have:=rv.length
    have h2:=(gh.mp Vn).1
    rw [b_] at this
    omega
   obtain ⟨u,e1,r1⟩:=rv.get (i:=i) (x:=.bl bs[i]) (by simp [hb])
   rw [Vn] at e1
   cases e1
   obtain rfl:v=Value.bool bs[i]:=r1
   have e3:bs.getD i true=bs[i]:=by simp [List.getD,hb]
   dsimp only at hQ; rw [e3] at hQ
   exact wpAny_truthy_bool hQ
 · have hl:aK.toArray.size=bs.length:=by have:=rv.length; rw [b_] at this; rw [gB]; omega
   have e:(List.range aK.toArray.size).all (fun i=>bs.getD i true)=bs.all id:=by
    rw [hl,Hv,y8,y8]
    constructor
    · intro h x hx
      obtain ⟨i,hi,e⟩:=List.mem_iff_getElem.mp hx
      have:=h i (Ei.mpr hi)
      simp only [List.getD,j_ hi,Option.getD_some] at this
      rw [← e]; exact this
    · intro h i hi
      have HJ:=Ei.mp hi
      simp only [List.getD,j_ HJ,Option.getD_some]
      exact h _ (A9 HJ)
   rw [e]
   refine ⟨.bl (bs.all id),H,?_,rfl,q⟩
   have I0:Inv X pins σ H { s with heap:=s.heap.push { cls:=.type "list_iterator",data:=.fields #[.ref p,.int 0 0] } }:=I.kept (t':=s.toks) fun b o e=>cY _ e
   have fk:=I.qc (H':=H) (du s.heap.objs.size) I.fresh
   obtain ⟨f0,f1,_,f3,f4,f5⟩:=fk
   exact I0.turned (t':=tk) (fun b o hb e=>k b o (by simpa using hb) e) f0 f1 f3 f4 f5
theorem qg:Be X "str.startswith" (fun x xs H Q=>∃ z y,x = .str z∧xs=[.str y]∧Q (.bl (Txt.startswith z y)) H):=by
 intro pins s σ H x xs v us Q I rx rs h
 obtain ⟨z,y,rfl,rfl,q⟩:=h
 obtain ⟨t,rfl⟩:=rx
 obtain ⟨u,rfl,t',rfl⟩:=vals1 rs
 exact SC.startswith ⟨.bl _,H,I,rfl,q⟩
def N7:V→Option Int→Option Int→Hp→VK→Prop:=fun x lo hi H Q=>∃ z,x = .str z∧z.length≤sizeLine∧Q (.str (Txt.slice z lo hi)) H
theorem Ka:BE X N7:=by
 intro pins s σ H x v vl vu lo hi sl Q I rx hs pl pu h
 obtain ⟨z,rfl,hz,q⟩:=h
 obtain ⟨t,rfl⟩:=rx
 obtain ⟨o,e,c,d⟩:=hs
 refine ⟨"str",_,slot_str_getitem.lookup,typeIs_str _ _ _,?_⟩
 cases pl with
 | none =>
   cases pu with
   | none=>exact wpAny_getItem_str_slice (l:=none) (u:=none) (st:=none) ⟨o,e,c,d⟩ rfl (post_val_or_str ⟨mD (Txt.slice_le z _ _) hz,fun t' k=>⟨.str _,H,I.tok _,⟨_,rfl⟩,q⟩⟩)
   | int j tj=>exact wpAny_getItem_str_slice (l:=none) (u:=some (j,tj)) (st:=none) ⟨o,e,c,d⟩ rfl (post_val_or_str ⟨mD (Txt.slice_le z _ _) hz,fun t' k=>⟨.str _,H,I.tok _,⟨_,rfl⟩,q⟩⟩)
 | int i ti =>
   cases pu with
   | none=>exact wpAny_getItem_str_slice (l:=some (i,ti)) (u:=none) (st:=none) ⟨o,e,c,d⟩ rfl (post_val_or_str ⟨mD (Txt.slice_le z _ _) hz,fun t' k=>⟨.str _,H,I.tok _,⟨_,rfl⟩,q⟩⟩)
   | int j tj=>exact wpAny_getItem_str_slice (l:=some (i,ti)) (u:=some (j,tj)) (st:=none) ⟨o,e,c,d⟩ rfl (post_val_or_str ⟨mD (Txt.slice_le z _ _) hz,fun t' k=>⟨.str _,H,I.tok _,⟨_,rfl⟩,q⟩⟩)
end
def Walk (J:It) (H1:Hp) (xs:List V):Prop:=∀ (i:Nat) H',aJ H1 H'→(∀ x,xs[i]?=some x→J.go i H')∧(xs.length≤i→J.stop i H')∧(i < xs.length→∀ x HK,J.Mw i H' x HK→HK=H'∧xs[i]?=some x)
theorem uf.map {J:It} {tt:TT} {te:TE} {σ:St} {D:Addr} {Q:Hp→Prop} {H1:Hp} {k:Nat} (xs:List V) (p:V→Bool) (f:V→V) (hk:k=σ.length) (hD:H1 D=none) (hz:xs.length≤sizeLine) (hJ:Walk J H1 xs)
  (ht:∀ (i:Nat) x H' R,xs[i]?=some x→aJ H1 H'→(∀ HK,aJ H' HK→R (p x) HK)→tt (σ ++ [some x]) H' R)
  (he:∀ (i:Nat) x H' R,xs[i]?=some x→p x=true→aJ H1 H'→(∀ HK,aJ H' HK→R (f x) HK)→te (σ ++ [some x]) H' R)
  (hq:∀ H',aJ H1 H'→H' D=some (.lst ((xs.filter p).map f))→Q H'):uf J (ig k) tt te 1 σ D Q H1:=by
 subst hk
 refine ⟨fun i m acc H2=>i≤xs.length∧m=xs.length - i∧acc=((xs.take i).filter p).map f∧aJ H1 H2∧H2 D=some (.lst acc),⟨xs.length,kd _,rfl,by simp,fun b o e=>?_,aU⟩,?_⟩
 · rw [aH (aV e hD)]; exact e
 · rintro i m acc H2 ⟨hi,rfl,rfl,s2,Fj⟩
   refine ⟨Fj,?_⟩
   obtain ⟨j1,j2,j3⟩:=hJ i H2 s2
   by_cases fN:i < xs.length
   · refine .inr ⟨j1 xs[i] (by simp [fN]),?_,fun x H3 y=>?_⟩
     · have h1:(((xs.take i).filter p).map f).length≤i:=by
        rw [b_]
        refine mD (List.length_filter_le _ _) ?_
        rw [EH]; omega
       omega
     · obtain ⟨e3,hx⟩:=j3 fN x H3 y
       subst e3
       have eσ:(σ ++ List.replicate 1 none).set σ.length (some x)=σ ++ [some x]:=by
        rw [List.set_append_right _ _ (du _),Nat.sub_self]; rfl
       show (((σ ++ List.replicate 1 none).set σ.length (some x)).length=σ.length+1∧_)∧_
       rw [eσ]
       refine ⟨⟨by simp,fun i v h=>?_⟩,?_⟩
       · have HJ:=(gh.mp h).1
         rw [vI HJ]; exact h
       refine ht i x H3 _ hx s2 fun H5 s5=>?_
       have Vo:(xs.take (i+1)).filter p=(xs.take i).filter p ++ (if p x then [x] else []):=take_succ_filter p xs i x hx
       cases hp:p x with
       | false =>
         rw [if_neg nL]
         refine ⟨xs.length - (i+1),by omega,fN,rfl,?_,s2.trans s5,s5 _ _ Fj⟩
         rw [Vo,hp]; simp
       | true =>
         rw [if_pos rfl]
         refine he i x H5 _ hx hp (s2.trans s5) fun H6 s6=>?_
         refine ⟨s6 _ _ (s5 _ _ Fj),xs.length - (i+1),by omega,fN,rfl,?_,fun b o e=>?_,aU⟩
         · rw [Vo,hp]; simp
         · rw [aH (aV e hD)]; exact s6 _ _ (s5 _ _ (s2 _ _ e))
   · have e:i=xs.length:=by omega
     subst e
     refine .inl ⟨j2 (du _),hq H2 s2 ?_⟩
     rw [Fj,Mq]
theorem aS {H:Hp} {D:Addr} {o:HO} (h:H D=none):aJ H (upd H D o):=fun b u e=>by rw [aH (aV e h)]; exact e
section
variable {X:Cx} {pins:List (Addr×Obj)} {σ:St} {H H':Hp} {s:Shared} {h':Heap}
theorem Inv.grown {t':Nat} {ch:List Addr} {t:Addr} {o:HO} (I:Inv X pins σ H s) (k:∀ b u,b∉ch→s.heap.get? b=some u→h'.get? b=some u) (hf:∀ b∈ch,lg X pins H b) (ht:s.heap.objs.size≤t)
  (new:bM X.prog X.w (upd H t o) h' t o):Inv X pins σ (upd H t o) { s with heap:=h',toks:=t' }:=by
 have hn:H t=none:=I.bC.fresh ht
 have Br:∀ b u,H b=some u→b∉ch:=fun b u e z=>by rw [(hf b z).1] at e; cases e
 refine I.step (g':=s.gens) (d':=s.drawn) (ch:=ch) (fun b hb=>?_) (fun b u _ _ hc e _=>k b u hc e) (fun b u _ _ hc e _=>⟨u.slots,k b u hc e⟩) (fun b u _ e n=>?_) (fun b u hc e=>⟨u,k b u hc e⟩)
  (fun b xs e=>?_) (fun b u v e=>?_) (fun b ps e=>⟨#[],?_⟩) (fun m hm=>?_) (fun b u e=>?_) I.bare
 · obtain ⟨_,f1,_,f3,f4,f5⟩:=hf b hb
   exact ⟨f3,f1,f4,f5⟩
 · rw [aH (gF (m_ (dq e) ht))]; exact n
 · rw [aH (aV e hn)]; exact e
 · rw [aH (aV e hn)]; exact e
 · rw [aH (aV e hn),e]; simp
 · obtain ⟨ob,es,ep,ho,r⟩:=hm
   exact ⟨ob,es,ep,k _ ob (fun z=>(hf _ z).2.1 rfl) ho,r⟩
 · by_cases hb:b=t
   · subst hb; rw [aU] at e; cases e; exact new
   · rw [aH hb] at e
     refine (I.bC b u e).mF (fun c v hc q=>k c v ?_ q) (fun c q=>by rw [aH (aV q hn)]; exact q) fun c xs q=>by rw [aH (aV q hn)]; exact q
     rcases hc with z | z
     · rw [z]; exact Br b u e
     · exact Br c _ z
end
def SE (K:PySem.W.Frag) (a:Addr):It :=
 ⟨fun i H=>∃ xs x,eI K H a xs∧xs[i]?=some x,fun i H v H'=>∃ t x,H t=none∧v = .ref t∧(∀ xs,eI K H a xs→xs[i]?=some x)∧H'=upd H t (.tup [.int (i:Int),x]),fun i H=>∃ xs,eI K H a xs∧xs.length≤i⟩
theorem zp {P:Program} {w:World} {K:PySem.W.Frag} {elts:List Expr} {x1} {tp:Pos} (a e it:Addr) (pZ:e≠it) :
  Turn P w K (.Tuple elts x1 tp) (SE K a) [e,it] e (fun i h=>(∃ old,IsEnum h e it (i:Int) old)∧h.IsListIter it a i) where
 mem:=by simp
 obj:=fun i h st b hb=>by
  obtain ⟨⟨old,h1⟩,o,h2,c,d⟩:=st
  rcases dS.mp hb with z | z
  · subst z
    exact ⟨_,h1,fun v z=>by cases z⟩
  · have z':b=it:=by simpa using z
    subst z'
    exact ⟨o,h2,fun v z=>by rw [d] at z; cases z⟩
 keep:=fun i h h' st k=>by
  obtain ⟨⟨old,h1⟩,Bb⟩:=st
  exact ⟨⟨old,k e (by simp) _ h1⟩,Bb.at fun o q=>k it (by simp) o q⟩
 item:=by
  intro X hP hw hK hc i pins s σ H E I hf st hg
  subst hP hw hK
  obtain ⟨xs,x,hq,hx⟩:=hg
  obtain ⟨aK,rv,p,hz⟩:=I.list hq
  obtain ⟨u,hu,ru⟩:=rv.get hx
  obtain ⟨⟨old,h1⟩,Bb⟩:=st
  refine wpAny_pyNext_enum_item h1 Bb p.isList (x:=u) (by simpa using hu) pZ fun h₁ HB SG WG BP WH=>?_
  refine ⟨_,rfl,wpAny_letOwnedTupleGo_enum HB fun h₂ WI qh=>?_⟩
  have qi:Heap.SameBut e h₁ h₂:=qh
  have fN:e < s.heap.objs.size:=dq h1
  have SH:s.heap.objs.size≠e:=A_ fN
  have kk:∀ b ob,b∉[e,it]→s.heap.get? b=some ob→h₂.get? b=some ob:=fun b ob hb q=>by
   have Ek:b≠e:=fun z=>hb (by simp [z])
   have SI:b≠it:=fun z=>hb (by simp [z])
   exact (qi.2 b Ek).trans (WH b ob Ek SI q)
  have new:bM X.prog X.w (upd H s.heap.objs.size (.tup [.int (i:Int),x])) h₂ s.heap.objs.size (.tup [.int (i:Int),x]) :=
   ⟨by show 2≤sizeLine; rw [sizeLine_eq]; decide,[.int i s.toks,u],.cons ⟨_,rfl⟩ (.cons ru .nil),⟨_,(qi.2 _ SH).trans WG,rfl,_,rfl⟩⟩
  refine ⟨.ref s.heap.objs.size,upd H s.heap.objs.size (.tup [.int (i:Int),x]),I.grown (t':=s.toks+1) kk hf (du _) new,rfl,⟨_,x,I.fresh,rfl,fun ys hy=>by rw [I.kg hy hq]; exact hx,rfl⟩,⟨⟨u,?_⟩,?_⟩,fun b hb=>?_⟩
  · have:((i:Int)+1)=((i+1:Nat):Int):=by omega
    rw [← this]; exact WI
  · obtain ⟨o,q,r⟩:=SG
    exact ⟨o,(qi.2 it (Ne.symm pZ)).trans q,r⟩
  · have SJ:b < s.heap.objs.size:=by
     rcases dS.mp hb with z | z
     · subst z; exact fN
     · have z':b=it:=by simpa using z
       subst z'
       obtain ⟨o,q,_⟩:=Bb
       exact dq q
    rw [aH (gF SJ)]
    exact (hf b hb).1
 done:=by
  intro X hP hw hK hc i pins s σ H E I hf st hg
  subst hP hw hK
  obtain ⟨xs,hq,hx⟩:=hg
  obtain ⟨aK,rv,p,hz⟩:=I.list hq
  have hl:=rv.length
  obtain ⟨⟨old,h1⟩,Bb⟩:=st
  obtain ⟨f0,f1,f2,f3,f4,f5⟩:=hf it (by simp)
  exact wpAny_pyNext_enum_end (I.ok.hd hc) h1 Bb p.isList (by simp; omega) fun h' eb=>⟨rfl,I.turned (t':=s.toks) (fun b o hb q=>eb b o hb q) f0 f1 f3 f4 f5⟩
 self:=fun _ _ _ _ _ st h=>by
  obtain ⟨⟨old,h1⟩,_⟩:=st
  exact wpAny_pyIter_enum h1 h
def N8 (K:PySem.W.Frag) (ta:TA):TI:=fun σ H R=>ta σ H fun vs H1=>∃ a,vs=[.ref a]∧(∃ xs,eI K H1 a xs)∧R (SE K a) H1
section
variable {X:Cx}
theorem boot_enumerate:bootBuiltins "enumerate" = some (.type "enumerate"):=by decide +kernel
theorem Fl {elts:List Expr} {x1} {tp:Pos} {a:Expr} {ta:TA} {p pos:Pos} (hg:Gl X "enumerate") (hm:X.mg "enumerate" = none) (ha:PA X [a] ta) (hs:starEach [a] X.env=[(false,eval a X.env)]:=by rfl) :
  PI X (.Tuple elts x1 tp) (.Call (.Name "enumerate" p) [a] [] pos) (N8 X.K ta):=by
 intro pins s σ H R I h
 refine Call_ (jL I hg hm boot_enumerate (Qz (bT (ha pos pins s σ H _ I h) fun us s1 ⟨vs,H1,I1,r1,q1⟩=>?_) hs rfl))
 obtain ⟨b,e,⟨xs,hq⟩,q⟩:=q1
 subst e
 obtain ⟨u,rfl,ru⟩:=vals1 r1
 cases ru
 obtain ⟨aK,rv,pl,hz⟩:=I1.list hq
 refine call_enumerate_list pl.isList fun h' he hit pY hk=>?_
 have I2:Inv X pins σ H1 { s1 with heap:=h' }:=I1.kept (t':=s1.toks) hk
 refine wpAny_pyIter_enum he ?_
 refine ⟨s1.heap.objs.size+1,[s1.heap.objs.size+1,s1.heap.objs.size],_,_,H1,rfl,I2,zp b _ _ (A_ (IU _)),⟨⟨_,he⟩,hit⟩,fun c hc=>?_,q⟩
 rcases dS.mp hc with z | z
 · subst z; exact I1.qc (IZ _) (I1.bC.fresh (IZ _))
 · have z':c=s1.heap.objs.size:=by simpa using z
   subst z'; exact I1.qc (du _) I1.fresh
end
section
variable {X:Cx}
theorem qj (hc:X.calm=true):cU X (.builtin "sum") (fun xs H Q=>∃ (p:Addr) (ns:List Int),xs=[.ref p]∧eI X.K H p (ns.map V.int)∧Q (.int ns.sum) H):=by
 intro pins s σ H xs us Q I r h
 obtain ⟨p,ns,rfl,hq,q⟩:=h
 obtain ⟨u,rfl,rx⟩:=vals1 r
 cases rx
 obtain ⟨aK,rv,pl,hz⟩:=I.list hq
 have hI:IntsAre aK ns:=intsAre_of rv
 obtain ⟨xs,e⟩:=hI.allInts.items
 have hn:=hI.numsOf
 have hl:s.heap.IsList p (intItems xs):=by rw [← e]; exact pl.isList
 refine sum_intListG (I.ok.hd hc) hl fun h' tk t' hk=>?_
 have e2:preSum (numAt xs) xs.size=ns.sum:=by
  rw [preSum_eq,MW (by simp),← nums_intItems,← e,List.toList_toArray,hn]
 rw [e2]
 exact ⟨.int ns.sum,H,I.kept hk,⟨_,rfl⟩,q⟩
end
end L2
namespace ym
open PySem Builtin Builtin.Str
def bw:Str:="abcdefghijklmnopqrstuvwxyz"
def Er (c:Nat):Bool:=!(occurrences bw ⟨#[c]⟩ 0 bw.length 1).isEmpty
theorem we:(("." : String):Str)=⟨#[46]⟩:=by decide +kernel
def cj (x:Str):Bool:=decide (1≤(x.length:Int)) && (decide ((x.length:Int)≤8) && x.cps.toList.all Er)
def sd (x:Str):Bool:=Txt.startswith x "." && cj (Txt.slice x (some 1) none)
theorem se {x:Str} (h:cj x=true):x.cps.toList.all Er=true:=by
 unfold cj at h
 rw [iC,iC] at h
 exact h.2.2
theorem wg (x:Str):Txt.startswith (("." : String) ++ x) "." = true:=by
 obtain ⟨⟨l⟩⟩:=x
 rw [we]
 unfold Txt.startswith subAt
 rw [iC]
 refine ⟨?_,?_⟩
 · apply decide_eq_true
   show 0+1≤(#[46] ++ ({ toList:=l }:Array Nat)).size
   simp
 · show (Array.extract (#[46] ++ ({ toList:=l }:Array Nat)) 0 (0+1) == #[46])=true
   rw [beq_iff_eq]
   apply Array.ext'
   simp
theorem zq (x:Str):Txt.slice (("." : String) ++ x) (some 1) none=x:=by
 obtain ⟨⟨l⟩⟩:=x
 rw [we]
 have hl:(Str.length (Str.mk #[46] ++ Str.mk { toList:=l }))=l.length+1:=by
  show (#[46] ++ ({ toList:=l }:Array Nat)).size=_
  simp
 have hi:strSliceIndices (some 1) none 1 (l.length+1)=(List.range l.length).map (fun k=>k+1):=by
  unfold strSliceIndices sliceRange
  simp only [show (1:Int) > 0 by decide,if_true]
  have e0:max 0 (min (if (1:Int) < 0 then 1+((l.length+1:Nat):Int) else 1) ((l.length+1:Nat):Int))=1:=by
   rw [if_neg (by decide)]; omega
  rw [e0]
  by_cases hn:l.length=0
  · rw [hn]; rfl
  · have e1:((1:Int) < ((l.length+1:Nat):Int)):=by omega
    rw [if_pos e1]
    have e2:((((l.length+1:Nat):Int) - 1+1 - 1) / 1).toNat=l.length:=by
     rw [Int.ediv_one]; omega
    rw [e2]
    apply List.map_congr_left
    intro k hk
    omega
 unfold Txt.slice
 rw [hl,hi]
 have pZ:¬ (((1:Int) == 1 && (List.map (fun k=>k+1) (List.range l.length)).length == l.length+1)=true):=by
  rw [iC,b_,EG]
  intro q
  have:=beq_iff_eq.mp q.2
  omega
 rw [if_neg pZ]
 congr 1
 apply Array.ext'
 rw [List.toList_toArray]
 show List.filterMap (fun i=>(#[46] ++ ({ toList:=l }:Array Nat))[i]?) (List.map (fun k=>k+1) (List.range l.length))=l
 rw [List.filterMap_map]
 have e:∀ k,((fun i=>(#[46] ++ ({ toList:=l }:Array Nat))[i]?) ∘ fun k=>k+1) k=l[k]?:=fun k=>by
  show (#[46] ++ ({ toList:=l }:Array Nat))[k+1]?=l[k]?
  rw [← Array.getElem?_toList]
  simp
 rw [show ((fun i=>(#[46] ++ ({ toList:=l }:Array Nat))[i]?) ∘ fun k=>k+1)=fun k=>l[k]? from funext e]
 clear e pZ hi hl
 induction l with
 | nil=>rfl
 | cons a r ih =>
   rw [IW,List.range_succ_eq_map,mZ]
   simp only [QB,List.filterMap_map]
   congr 1
theorem zt {x:Str} (h:cj x=true):sd (("." : String) ++ x)=true:=by
 unfold sd
 rw [wg,zq,h]
 rfl
theorem Fm (x:Str):((("." : String):Str) ++ x).length=x.length+1:=by
 rw [we]
 show (#[46] ++ x.cps).size=_
 simp [Str.length]
 omega
end ym
namespace VT
open PySem PySem.Spec PyProof.Rows L2
abbrev St:=L2.St
inductive T where
 | bh | bl (b:Bool) | int (i:Int) | str (x:Str) | tup (l:List T) | lst (l:List T) | dk (ks:List Key) (vs:List T) | dt (ks:List (List Key)) (vs:List T) | df (o:Obj) (ks:List (List Key)) (vs:List T) | dz (o:Obj) (ks:List Key) (vs:List T) | kt (k:List Key) | ins (C:Addr) (ns:List Str) (vs:List T) | pin (a:Addr) (t:T) | ob (a:Addr) | ty (n:String)
def qk (K:PySem.W.Frag) (H:Hp) (O:List Addr) (a:Addr) (vs:List V):Prop :=
 (Rd H a (.lst vs)∧a∉O)∨∃ (o:Obj) (aK:Array Value) (n:Nat),K.lookup a=some o∧o.cls = .type "list"∧o.dict=none∧o.data = .seq aK n∧aK.size≤sizeLine∧Vals vs aK.toList
theorem qk.sq {K:PySem.W.Frag} {H:Hp} {O:List Addr} {a:Addr} {vs:List V} (h:qk K H O a vs):eI K H a vs:=by
 rcases h with h | h
 · exact .inl h.1
 · exact .inr h
def ql (H:Hp) (O:List Addr) (a:Addr) (u:HO):Prop:=H a=some u∧a∉O
mutual
def At (K:PySem.W.Frag) (H:Hp) (O:List Addr):T→V→Prop
 | .bh,v=>v = .bh
 | .bl b,v=>v = .bl b
 | .int i,v=>v = .int i
 | .str x,v=>v = .str x
 | .ob a,v=>v = .ref a
 | .ty n,v=>v = .ty n
 | .tup ts,v=>∃ a vs,v = .ref a∧dw K H a vs∧aG K H O ts vs
 | .lst ts,v=>∃ a vs,v = .ref a∧qk K H O a vs∧aG K H O ts vs
 | .dk ks ts,v=>∃ a vs,v = .ref a∧ks.length=vs.length∧ql H O a (.dK (ks.zip vs))∧aG K H O ts vs
 | .dt ks ts,v=>∃ a vs,v = .ref a∧ks.length=vs.length∧ql H O a (.dT (ks.zip vs))∧aG K H O ts vs
 | .df o ks ts,v=>∃ a vs,v = .ref a∧ks.length=vs.length∧ql H O a (.tV o (.dT (ks.zip vs)))∧aG K H O ts vs
 | .dz o ks ts,v=>∃ a vs,v = .ref a∧ks.length=vs.length∧ql H O a (.tV o (.dK (ks.zip vs)))∧aG K H O ts vs
 | .kt k,v=>∃ a,v = .ref a∧ql H O a (.tup (k.map kV))
 | .pin a t,v=>v = .ref a∧At K H O t v
 | .ins C ns ts,v=>∃ a dx vs,v = .ref a∧ns.length=vs.length∧ql H O a (.ins C dx (ns.zip vs))∧aG K H O ts vs
def aG (K:PySem.W.Frag) (H:Hp) (O:List Addr):List T→List V→Prop
 | [],vs=>vs=[]
 | t :: ts,vs=>∃ v r,vs=v :: r∧At K H O t v∧aG K H O ts r
end
section
variable {K:PySem.W.Frag} {H H':Hp} {O O':List Addr}
mutual
theorem At.map (hl:∀ a vs,qk K H O a vs→qk K H' O' a vs) (ht:∀ a vs,dw K H a vs→dw K H' a vs) (hd:∀ a u,ql H O a u→ql H' O' a u):∀ {t:T} {v:V},At K H O t v→At K H' O' t v
 | .bh,_,h=>by simpa only [At] using h
 | .bl _,_,h=>by simpa only [At] using h
 | .int _,_,h=>by simpa only [At] using h
 | .str _,_,h=>by simpa only [At] using h
 | .ob _,_,h=>by simpa only [At] using h
 | .ty _,_,h=>by simpa only [At] using h
 | .tup ts,_,h=>by
   simp only [At] at h ⊢
   obtain ⟨a,vs,e,h1,h2⟩:=h
   exact ⟨a,vs,e,ht a vs h1,aG.map hl ht hd h2⟩
 | .lst ts,_,h=>by
   simp only [At] at h ⊢
   obtain ⟨a,vs,e,h1,h2⟩:=h
   exact ⟨a,vs,e,hl a vs h1,aG.map hl ht hd h2⟩
 | .dk ks ts,_,h=>by
   simp only [At] at h ⊢
   obtain ⟨a,vs,e,h0,h1,h2⟩:=h
   exact ⟨a,vs,e,h0,hd _ _ h1,aG.map hl ht hd h2⟩
 | .dt ks ts,_,h=>by
   simp only [At] at h ⊢
   obtain ⟨a,vs,e,h0,h1,h2⟩:=h
   exact ⟨a,vs,e,h0,hd _ _ h1,aG.map hl ht hd h2⟩
 | .df o ks ts,_,h=>by
   simp only [At] at h ⊢
   obtain ⟨a,vs,e,h0,h1,h2⟩:=h
   exact ⟨a,vs,e,h0,hd _ _ h1,aG.map hl ht hd h2⟩
 | .dz o ks ts,_,h=>by
   simp only [At] at h ⊢
   obtain ⟨a,vs,e,h0,h1,h2⟩:=h
   exact ⟨a,vs,e,h0,hd _ _ h1,aG.map hl ht hd h2⟩
 | .kt k,_,h=>by
   simp only [At] at h ⊢
   obtain ⟨a,e,h1⟩:=h
   exact ⟨a,e,hd _ _ h1⟩
 | .pin a t,_,h=>by
   simp only [At] at h ⊢
   exact ⟨h.1,At.map hl ht hd h.2⟩
 | .ins C ns ts,_,h=>by
   simp only [At] at h ⊢
   obtain ⟨a,dx,vs,e,h0,h1,h2⟩:=h
   exact ⟨a,dx,vs,e,h0,hd _ _ h1,aG.map hl ht hd h2⟩
theorem aG.map (hl:∀ a vs,qk K H O a vs→qk K H' O' a vs) (ht:∀ a vs,dw K H a vs→dw K H' a vs) (hd:∀ a u,ql H O a u→ql H' O' a u):∀ {ts:List T} {vs:List V},aG K H O ts vs→aG K H' O' ts vs
 | [],_,h=>by simpa only [aG] using h
 | t :: ts,_,h=>by
   simp only [aG] at h ⊢
   obtain ⟨v,r,e,h1,h2⟩:=h
   exact ⟨v,r,e,At.map hl ht hd h1,aG.map hl ht hd h2⟩
end
theorem Rd.same {a:Addr} {u:HO} (s:aJ H H') (h:Rd H a u):Rd H' a u:=by
 rcases h with h | ⟨o,h⟩
 · exact .inl (s _ _ h)
 · exact .inr ⟨o,s _ _ h⟩
theorem dw.same {a:Addr} {vs:List V} (s:aJ H H') (h:dw K H a vs):dw K H' a vs:=by
 rcases h with h | h
 · exact .inl (Rd.same s h)
 · exact .inr h
theorem qk.same {a:Addr} {vs:List V} (s:aJ H H') (h:qk K H O a vs):qk K H' O a vs:=by
 rcases h with h | h
 · exact .inl ⟨Rd.same s h.1,h.2⟩
 · exact .inr h
theorem At.same {t:T} {v:V} (s:aJ H H') (h:At K H O t v):At K H' O t v:=At.map (fun _ _ q=>q.same s) (fun _ _ q=>dw.same s q) (fun _ _ q=>⟨s _ _ q.1,q.2⟩) h
theorem aG.same {t:List T} {v:List V} (s:aJ H H') (h:aG K H O t v):aG K H' O t v:=aG.map (fun _ _ q=>q.same s) (fun _ _ q=>dw.same s q) (fun _ _ q=>⟨s _ _ q.1,q.2⟩) h
theorem At.bq {t:T} {v:V} (s:∀ a∈O',a∈O) (h:At K H O t v):At K H O' t v :=
 At.map (fun a vs q=>q.elim (fun z=>.inl ⟨z.1,fun m=>z.2 (s a m)⟩) .inr) (fun _ _ q=>q) (fun a _ q=>⟨q.1,fun m=>q.2 (s a m)⟩) h
theorem aG.bq {t:List T} {v:List V} (s:∀ a∈O',a∈O) (h:aG K H O t v):aG K H O' t v :=
 aG.map (fun a vs q=>q.elim (fun z=>.inl ⟨z.1,fun m=>z.2 (s a m)⟩) .inr) (fun _ _ q=>q) (fun a _ q=>⟨q.1,fun m=>q.2 (s a m)⟩) h
theorem Rd.some {a:Addr} {u:HO} (h:Rd H a u):H a≠none:=by
 rcases h with h | ⟨o,h⟩ <;> rw [h] <;> simp
theorem At.more {t:T} {v:V} (s:∀ a∈O',a∈O∨H a=none) (h:At K H O t v):At K H O' t v :=
 At.map (fun a vs q=>q.elim (fun z=>.inl ⟨z.1,fun m=>(s a m).elim z.2 (Rd.some z.1)⟩) .inr) (fun _ _ q=>q) (fun a aZ q=>⟨q.1,fun m=>(s a m).elim q.2 (by rw [q.1]; simp)⟩) h
theorem aG.more {t:List T} {v:List V} (s:∀ a∈O',a∈O∨H a=none) (h:aG K H O t v):aG K H O' t v :=
 aG.map (fun a vs q=>q.elim (fun z=>.inl ⟨z.1,fun m=>(s a m).elim z.2 (Rd.some z.1)⟩) .inr) (fun _ _ q=>q) (fun a aZ q=>⟨q.1,fun m=>(s a m).elim q.2 (by rw [q.1]; simp)⟩) h
def uj:HO→Bool
 | .lst _=>true
 | .dK _=>true
 | .dT _=>true
 | .ins _ _ _=>true
 | _=>false
theorem At.wrote {t:T} {v:V} {a:Addr} {o u:HO} (ha:a∈O) (hu:H a=some u) (hm:uj u=true) (h:At K H O t v):At K (upd H a o) O t v:=by
 have ne:∀ b,b∉O→b≠a:=fun b hb e=>hb (by rw [e]; exact ha)
 refine At.map (fun b vs q=>?_) (fun b vs q=>?_) (fun b aZ q=>?_) h
 · rcases q with q | q
   · refine .inl ⟨?_,q.2⟩
     rcases q.1 with z | ⟨o',z⟩
     · exact .inl (by rw [aH (ne b q.2)]; exact z)
     · exact .inr ⟨o',by rw [aH (ne b q.2)]; exact z⟩
   · exact .inr q
 · rcases q with z | z
   · refine .inl ?_
     rcases z with z | ⟨o',z⟩
     · exact .inl (by rw [aH (HA z hu (by intro e; subst e; cases hm))]; exact z)
     · exact .inr ⟨o',by rw [aH (HA z hu (by intro e; subst e; cases hm))]; exact z⟩
   · exact .inr z
 · exact ⟨by rw [aH (ne b q.2)]; exact q.1,q.2⟩
theorem aG.iff {ts:List T}:∀ {vs:List V},aG K H O ts vs↔Paired (fun v t=>At K H O t v) vs ts:=by
 induction ts with
 | nil=>intro vs; simp only [aG]; exact ⟨fun e=>by subst e; exact .nil,fun h=>by cases h; rfl⟩
 | cons t ts ih =>
   intro vs
   simp only [aG]
   constructor
   · rintro ⟨v,r,rfl,h1,h2⟩
     exact .cons h1 (ih.mp h2)
   · intro h
     cases h with
     | cons h1 h2=>exact ⟨_,_,rfl,h1,ih.mpr h2⟩
theorem aG.wrote {t:List T} {v:List V} {a:Addr} {o u:HO} (ha:a∈O) (hu:H a=some u) (hm:uj u=true) (h:aG K H O t v):aG K (upd H a o) O t v :=
 aG.iff.mpr (Paired.mE (aG.iff.mp h) fun _ _ q=>q.wrote ha hu hm)
theorem aG.length {ts:List T} {vs:List V} (h:aG K H O ts vs):vs.length=ts.length:=Paired.length (aG.iff.mp h)
theorem aG.get {ts:List T} {vs:List V} (h:aG K H O ts vs) {i:Nat} {t:T} (e:ts[i]?=some t):∃ v,vs[i]?=some v∧At K H O t v:=by
 have q:=aG.iff.mp h
 clear h
 induction q generalizing i with
 | nil=>simp at e
 | cons r _ ih =>
   cases i with
   | zero=>simp at e; subst e; exact ⟨_,rfl,r⟩
   | succ i=>obtain ⟨v,h1,h2⟩:=ih (i:=i) (by simpa using e); exact ⟨v,by simpa using h1,h2⟩
theorem aG.cons {t:T} {ts:List T} {v:V} {vs:List V} (h:At K H O t v) (hs:aG K H O ts vs):aG K H O (t :: ts) (v :: vs):=by
 simp only [aG]; exact ⟨v,vs,rfl,h,hs⟩
theorem aG.nil:aG K H O [] []:=by simp only [aG]
theorem aG.append {ts us:List T} {vs ws:List V} (h:aG K H O ts vs) (h':aG K H O us ws):aG K H O (ts ++ us) (vs ++ ws):=by
 rw [aG.iff] at h h' ⊢
 induction h with
 | nil=>exact h'
 | cons r _ ih=>exact .cons r ih
theorem aG.drop {ts:List T} {vs:List V} (n:Nat) (h:aG K H O ts vs):aG K H O (ts.drop n) (vs.drop n):=by
 rw [aG.iff] at h ⊢
 induction h generalizing n with
 | nil=>cases n <;> exact .nil
 | cons r t ih=>cases n with
   | zero=>exact .cons r t
   | succ n=>exact ih n
theorem aG.take {ts:List T} {vs:List V} (n:Nat) (h:aG K H O ts vs):aG K H O (ts.take n) (vs.take n):=by
 rw [aG.iff] at h ⊢
 induction h generalizing n with
 | nil=>cases n <;> exact .nil
 | cons r t ih=>cases n with
   | zero=>exact .nil
   | succ n=>exact .cons r (ih n)
theorem aG.set {ts:List T} {vs:List V} {t:T} {v:V} (i:Nat) (h:aG K H O ts vs) (q:At K H O t v):aG K H O (ts.set i t) (vs.set i v):=by
 rw [aG.iff] at h ⊢
 induction h generalizing i with
 | nil=>exact .nil
 | cons r s ih=>cases i with
   | zero=>exact .cons q s
   | succ i=>exact .cons r (ih i)
end
mutual
def kr:T→Bool
 | .tup ts=>sg ts
 | .lst _=>false
 | .dk _ _=>false
 | .dt _ _=>false
 | .df _ _ _=>false
 | .dz _ _ _=>false
 | .kt _=>false
 | .ins _ _ _=>false
 | .pin _ _=>false
 | _=>true
def sg:List T→Bool
 | []=>true
 | t :: ts=>kr t && sg ts
end
section
variable {K:PySem.W.Frag} {H H':Hp} {O O':List Addr}
mutual
theorem At.kr:∀ {t:T} {v:V},kr t=true→At K H O t v→At K H O' t v
 | .bh,_,_,h=>by simpa only [At] using h
 | .bl _,_,_,h=>by simpa only [At] using h
 | .int _,_,_,h=>by simpa only [At] using h
 | .str _,_,_,h=>by simpa only [At] using h
 | .ob _,_,_,h=>by simpa only [At] using h
 | .ty _,_,_,h=>by simpa only [At] using h
 | .tup ts,_,i,h=>by
   simp only [At] at h ⊢
   simp only [VT.kr] at i
   obtain ⟨a,vs,e,h1,h2⟩:=h
   exact ⟨a,vs,e,h1,aG.kr i h2⟩
 | .lst ts,_,i,h=>by simp only [VT.kr] at i; cases i
 | .dk _ _,_,i,h=>by simp only [VT.kr] at i; cases i
 | .dt _ _,_,i,h=>by simp only [VT.kr] at i; cases i
 | .df _ _ _,_,i,h=>by simp only [VT.kr] at i; cases i
 | .dz _ _ _,_,i,h=>by simp only [VT.kr] at i; cases i
 | .kt _,_,i,h=>by simp only [VT.kr] at i; cases i
 | .ins _ _ _,_,i,h=>by simp only [VT.kr] at i; cases i
 | .pin _ _,_,i,h=>by simp only [VT.kr] at i; cases i
theorem aG.kr:∀ {ts:List T} {vs:List V},sg ts=true→aG K H O ts vs→aG K H O' ts vs
 | [],_,_,h=>by simpa only [aG] using h
 | t :: ts,_,i,h=>by
   simp only [VT.sg,iC] at i
   simp only [aG] at h ⊢
   obtain ⟨v,r,e,h1,h2⟩:=h
   exact ⟨v,r,e,At.kr i.1 h1,aG.kr i.2 h2⟩
end
end
abbrev En:=List (Option (T×Bool))
structure Zc where
 H0:Hp
 P:List (Nat×Addr)
 Ox:List Addr
def Zc.ex (Z:Zc) (a:Addr):Zc:={ Z with Ox:=a :: Z.Ox }
def cq (K:PySem.W.Frag) (H:Hp) (A:List Addr) (a:Addr):T→Prop
 | .lst ts=>∃ vs,H a=some (.lst vs)∧aG K H A ts vs
 | .dk ks ts=>∃ vs,ks.length=vs.length∧H a=some (.dK (ks.zip vs))∧aG K H A ts vs
 | .dt ks ts=>∃ vs,ks.length=vs.length∧H a=some (.dT (ks.zip vs))∧aG K H A ts vs
 | .ins C ns ts=>∃ dx vs,ns.length=vs.length∧H a=some (.ins C dx (ns.zip vs))∧aG K H A ts vs
 | _=>False
def nV (K:PySem.W.Frag) (H:Hp) (A:List Addr):Option (T×Bool)→Option Addr→Option V→Prop
 | none,o,_=>o=none
 | some (t,false),o,s=>o=none∧∃ v,s=some v∧At K H A t v
 | some (t,true),o,s=>∃ a,o=some a∧s=some (.ref a)∧cq K H A a t
def roots (O:List (Option Addr)):List Addr:=O.filterMap id
def av (Z:Zc) (O:List (Option Addr)):List Addr:=roots O ++ Z.Ox
structure az (K:PySem.W.Frag) (Z:Zc) (tm:List (T×V)) (O:List (Option Addr)) (ρ:En) (σ:St) (H:Hp):Prop where
 lσ:σ.length=ρ.length
 lO:O.length=ρ.length
 sl:∀ (i:Nat) e,ρ[i]?=some e→∃ o s,O[i]?=some o∧σ[i]?=some s∧nV K H (av Z O) e o s
 nd:(roots O).Nodup
 own:∀ a∈roots O,(a∈Z.P.map (·.2)∨Z.H0 a=none)∧a∉Z.Ox∧∃ u,H a=some u∧uj u=true
 par:∀ p∈Z.P,O[p.1]?=some (some p.2)
 ox:∀ a∈Z.Ox,H a≠none
 keep:∀ b o,Z.H0 b=some o→b∉Z.P.map (·.2)→H b=some o
 nz:∀ p∈tm,At K H (av Z O) p.1 p.2
section
variable {K:PySem.W.Frag} {Z:Zc} {tm:List (T×V)} {O:List (Option Addr)} {ρ:En} {σ:St} {H H':Hp}
theorem cq.map {A A':List Addr} {a:Addr} {t:T} (h:cq K H A a t) (h1:H' a=H a) (h2:∀ ts vs,aG K H A ts vs→aG K H' A' ts vs):cq K H' A' a t:=by
 cases t with
 | lst ts=>obtain ⟨vs,e,q⟩:=h; exact ⟨vs,h1.trans e,h2 _ _ q⟩
 | dk ks ts=>obtain ⟨vs,l,e,q⟩:=h; exact ⟨vs,l,h1.trans e,h2 _ _ q⟩
 | dt ks ts=>obtain ⟨vs,l,e,q⟩:=h; exact ⟨vs,l,h1.trans e,h2 _ _ q⟩
 | ins C ns ts=>obtain ⟨dx,vs,l,e,q⟩:=h; exact ⟨dx,vs,l,h1.trans e,h2 _ _ q⟩
 | _=>exact h.elim
theorem cq.mut {A:List Addr} {a:Addr} {t:T} (h:cq K H A a t):∃ u,H a=some u∧uj u=true:=by
 cases t with
 | lst ts=>obtain ⟨vs,e,q⟩:=h; exact ⟨_,e,rfl⟩
 | dk ks ts=>obtain ⟨vs,l,e,q⟩:=h; exact ⟨_,e,rfl⟩
 | dt ks ts=>obtain ⟨vs,l,e,q⟩:=h; exact ⟨_,e,rfl⟩
 | ins C ns ts=>obtain ⟨dx,vs,l,e,q⟩:=h; exact ⟨_,e,rfl⟩
 | _=>exact h.elim
theorem cq.bq {A A':List Addr} {a:Addr} {t:T} (h:cq K H A a t) (s:∀ b∈A',b∈A):cq K H A' a t:=h.map rfl fun _ _ q=>q.bq s
theorem cq.same {A:List Addr} {a:Addr} {t:T} (h:cq K H A a t) (s:aJ H H'):cq K H' A a t:=by
 obtain ⟨u,e,_⟩:=h.mut
 exact h.map (by rw [e]; exact s _ _ e) fun _ _ q=>q.same s
theorem cq.at {A:List Addr} {a:Addr} {t:T} (h:cq K H A a t) (n:a∉A):At K H A t (.ref a):=by
 cases t with
 | lst ts=>obtain ⟨vs,e,q⟩:=h; simp only [At]; exact ⟨a,vs,rfl,.inl ⟨.inl e,n⟩,q⟩
 | dk ks ts=>obtain ⟨vs,l,e,q⟩:=h; simp only [At]; exact ⟨a,vs,rfl,l,⟨e,n⟩,q⟩
 | dt ks ts=>obtain ⟨vs,l,e,q⟩:=h; simp only [At]; exact ⟨a,vs,rfl,l,⟨e,n⟩,q⟩
 | ins C ns ts=>obtain ⟨dx,vs,l,e,q⟩:=h; simp only [At]; exact ⟨a,dx,vs,rfl,l,⟨e,n⟩,q⟩
 | _=>exact h.elim
theorem nV.map {A A':List Addr} {e:Option (T×Bool)} {o:Option Addr} {s:Option V} (h:nV K H A e o s) (h1:∀ t v,At K H A t v→At K H' A' t v) (h2:∀ a t,o=some a→cq K H A a t→cq K H' A' a t):nV K H' A' e o s:=by
 match e,h with
 | none,h=>exact h
 | some (t,false),⟨e,v,es,q⟩=>exact ⟨e,v,es,h1 _ _ q⟩
 | some (t,true),⟨a,e,es,q⟩=>exact ⟨a,e,es,h2 _ _ e q⟩
theorem aN {a:Addr}:a∈roots O↔some a∈O:=by
 unfold roots
 rw [List.mem_filterMap]
 exact ⟨fun ⟨x,h,e⟩=>by rw [id] at e; rw [← e]; exact h,fun h=>⟨_,h,rfl⟩⟩
theorem az.Kb (I:az K Z tm O ρ σ H):∀ a∈av Z O,H a≠none:=fun a h=>by
 rcases jA.mp h with h | h
 · obtain ⟨_,_,u,e,_⟩:=I.own a h; rw [e]; simp
 · exact I.ox a h
theorem az.same (I:az K Z tm O ρ σ H) (s:aJ H H'):az K Z tm O ρ σ H' :=
 ⟨I.lσ,I.lO,fun i e h=>let ⟨o,w,h1,h2,h3⟩:=I.sl i e h; ⟨o,w,h1,h2,h3.map (fun _ _ q=>q.same s) fun _ _ _ q=>q.same s⟩,I.nd,
   fun a h=>let ⟨h1,h2,u,e,m⟩:=I.own a h; ⟨h1,h2,u,s _ _ e,m⟩,I.par,fun a h=>by
    cases e:H a with
    | none=>exact absurd e (I.ox a h)
    | some u=>rw [s _ _ e]; simp,
   fun b o e n=>s _ _ (I.keep b o e n),fun p hp=>(I.nz p hp).same s⟩
theorem cb (i:Nat):∀ a∈roots (O.set i none),a∈roots O:=fun a h=>by
 rw [aN] at h ⊢
 rcases IP h with z | z
 · exact z
 · cases z
theorem fF:∀ (O:List (Option Addr)) (i:Nat),(roots O).Nodup→(roots (O.set i none)).Nodup
 | [],i,h=>by simpa using h
 | o :: O,0,h=>by
   cases o with
   | none=>simpa [roots] using h
   | some a=>simp only [roots,QI,mZ,id] at h ⊢; exact (qQ.mp h).2
 | o :: O,i+1,h=>by
   have key:=fF O i
   cases o with
   | none=>simp only [roots,Mp,mZ,id] at h ⊢; exact key h
   | some a =>
     simp only [roots,Mp,mZ,id] at h ⊢
     rw [qQ] at h ⊢
     exact ⟨fun z=>h.1 (cb i a z),key h.2⟩
theorem bX (i:Nat):∀ a∈av Z (O.set i none),a∈av Z O:=fun a h=>by
 rcases jA.mp h with h | h
 · exact mz _ (cb i a h)
 · exact k8 _ h
theorem get_set {α:Type} {l:List α} {i j:Nat} {x y:α} (h:(l.set i x)[j]?=some y):(j=i∧y=x∧i < l.length)∨(j≠i∧l[j]?=some y):=by
 rw [List.getElem?_set] at h
 by_cases e:i=j
 · rw [if_pos e] at h
   by_cases hl:i < l.length
   · rw [if_pos hl] at h
     exact .inl ⟨e.symm,(Option.some.inj h).symm,hl⟩
   · rw [if_neg hl] at h; cases h
 · rw [if_neg e] at h
   exact .inr ⟨fun z=>e z.symm,h⟩
theorem az.put (I:az K Z tm O ρ σ H) {i:Nat} {t:T} {v:V} (hp:∀ p∈Z.P,p.1≠i) (hv:At K H (av Z O) t v):az K Z tm (O.set i none) (ρ.set i (some (t,false))) (σ.set i (some v)) H:=by
 have fw:∀ {t:T} {v:V},At K H (av Z O) t v→At K H (av Z (O.set i none)) t v:=fun q=>q.bq (bX i)
 refine ⟨by simp [I.lσ],by simp [I.lO],fun j e h=>?_,fF _ _ I.nd,fun a h=>I.own a (cb i a h),fun p q=>?_,I.ox,I.keep,fun p q=>fw (I.nz p q)⟩
 · rcases get_set h with ⟨rfl,rfl,hl⟩ | ⟨ne,h⟩
   · exact ⟨none,some v,by rw [x5 (by rw [I.lO]; exact hl)],by rw [x5 (by rw [I.lσ]; exact hl)],rfl,v,rfl,fw hv⟩
   · obtain ⟨o,s,h1,h2,h3⟩:=I.sl j e h
     exact ⟨o,s,by rw [t7 (Ne.symm ne)]; exact h1,by rw [t7 (Ne.symm ne)]; exact h2,h3.map (fun _ _ q=>fw q) fun _ _ _ q=>q.bq (bX i)⟩
 · rw [t7 (Ne.symm (hp p q))]; exact I.par p q
theorem az.forget (I:az K Z tm O ρ σ H) {i:Nat} (hp:∀ p∈Z.P,p.1≠i):az K Z tm (O.set i none) (ρ.set i none) σ H:=by
 have fw:∀ {t:T} {v:V},At K H (av Z O) t v→At K H (av Z (O.set i none)) t v:=fun q=>q.bq (bX i)
 refine ⟨by simp [I.lσ],by simp [I.lO],fun j e h=>?_,fF _ _ I.nd,fun a h=>I.own a (cb i a h),fun p q=>?_,I.ox,I.keep,fun p q=>fw (I.nz p q)⟩
 · rcases get_set h with ⟨rfl,rfl,hl⟩ | ⟨ne,h⟩
   · obtain ⟨s,hs⟩:∃ s,σ[j]?=some s:=⟨σ[j]'(by rw [I.lσ]; exact hl),by simp⟩
     exact ⟨none,s,by rw [x5 (by rw [I.lO]; exact hl)],hs,rfl⟩
   · obtain ⟨o,s,h1,h2,h3⟩:=I.sl j e h
     exact ⟨o,s,by rw [t7 (Ne.symm ne)]; exact h1,h2,h3.map (fun _ _ q=>fw q) fun _ _ _ q=>q.bq (bX i)⟩
 · rw [t7 (Ne.symm (hp p q))]; exact I.par p q
theorem mi:∀ (O:List (Option Addr)) (i:Nat) (a:Addr),a∉roots O→(roots O).Nodup→(roots (O.set i (some a))).Nodup
 | [],i,a,_,h=>by simpa using h
 | o :: O,0,a,n,h=>by
   cases o with
   | none=>simp only [roots,QI,mZ,id] at n h ⊢; exact qQ.mpr ⟨n,h⟩
   | some b =>
     simp only [roots,QI,mZ,id] at n h ⊢
     exact qQ.mpr ⟨fun z=>n (jc _ z),(qQ.mp h).2⟩
 | o :: O,i+1,a,n,h=>by
   have key:=mi O i a
   cases o with
   | none=>simp only [roots,Mp,mZ,id] at n h ⊢; exact key n h
   | some b =>
     simp only [roots,Mp,mZ,id] at n h ⊢
     rw [qQ] at h ⊢
     refine ⟨fun z=>?_,key (fun z=>n (jc _ z)) h.2⟩
     have z':some b∈O.set i (some a):=aN.mp z
     rcases IP z' with q | q
     · exact h.1 (aN.mpr q)
     · exact n (by rw [Option.some.inj q]; exact jz)
theorem uk {a:Addr} (i:Nat):∀ b∈av Z (O.set i (some a)),b∈av (Z.ex a) O:=fun b h=>by
 rcases jA.mp h with h | h
 · rcases IP (aN.mp h) with z | z
   · exact mz _ (aN.mpr z)
   · exact k8 _ (by rw [Option.some.inj z]; exact jz)
 · exact k8 _ (jc _ h)
theorem az.SK {a:Addr} (I:az K (Z.ex a) tm O ρ σ H) {i:Nat} {t:T} (hp:∀ p∈Z.P,p.1≠i) (hv:cq K H (av (Z.ex a) O) a t) (h0:Z.H0 a=none) (hx:a∉Z.Ox):az K Z tm (O.set i (some a)) (ρ.set i (some (t,true))) (σ.set i (some (.ref a))) H:=by
 have sub:=uk (Z:=Z) (O:=O) (a:=a) i
 have fw:∀ {t:T} {v:V},At K H (av (Z.ex a) O) t v→At K H (av Z (O.set i (some a))) t v:=fun q=>q.bq sub
 have na:a∉roots O:=fun z=>(I.own a z).2.1 jz
 refine ⟨by simp [I.lσ],by simp [I.lO],fun j e h=>?_,mi _ _ _ na I.nd,fun b h=>?_,fun p q=>?_,fun b h=>I.ox b (jc _ h),I.keep,fun p q=>fw (I.nz p q)⟩
 · rcases get_set h with ⟨rfl,rfl,hl⟩ | ⟨ne,h⟩
   · exact ⟨some a,some (.ref a),by rw [x5 (by rw [I.lO]; exact hl)],by rw [x5 (by rw [I.lσ]; exact hl)],a,rfl,rfl,hv.bq sub⟩
   · obtain ⟨o,s,h1,h2,h3⟩:=I.sl j e h
     exact ⟨o,s,by rw [t7 (Ne.symm ne)]; exact h1,by rw [t7 (Ne.symm ne)]; exact h2,h3.map (fun _ _ q=>fw q) fun _ _ _ q=>q.bq sub⟩
 · rcases IP (aN.mp h) with z | z
   · obtain ⟨h1,h2,h3⟩:=I.own b (aN.mpr z)
     exact ⟨h1,fun q=>h2 (jc _ q),h3⟩
   · cases z
     exact ⟨.inr h0,hx,hv.mut⟩
 · rw [t7 (Ne.symm (hp p q))]; exact I.par p q
theorem az.tV (I:az K Z tm O ρ σ H) {i:Nat} {t:T} (hp:∀ p∈Z.P,p.1≠i) (hi:ρ[i]?=some (some (t,true))):az K Z tm (O.set i none) (ρ.set i (some (t,false))) σ H:=by
 have fw:∀ {t:T} {v:V},At K H (av Z O) t v→At K H (av Z (O.set i none)) t v:=fun q=>q.bq (bX i)
 obtain ⟨o,s,h1,h2,a,rfl,rfl,hr⟩:=I.sl i _ hi
 have ha:a∈roots O:=aN.mpr (mY h1)
 have na:a∉roots (O.set i none):=fun z=>by
  obtain ⟨j,hj⟩:=MZ.mp (aN.mp z)
  rcases get_set hj with ⟨_,q,_⟩ | ⟨ne,q⟩
  · cases q
  · -- two places of one root
    have key:∀ (O:List (Option Addr)) (i j:Nat),i < j→O[i]?=some (some a)→O[j]?=some (some a)→(roots O).Nodup→False:=by
     intro O
     induction O with
     | nil=>intro i j _ h; simp at h
     | cons o O ih =>
       intro i j Fo e1 e2 nd
       cases j with
       | zero=>omega
       | succ j =>
         have Eo:O[j]?=some (some a):=by simpa using e2
         cases i with
         | zero =>
           have:o=some a:=by simpa using e1
           subst this
           simp only [roots,mZ,id] at nd
           exact (qQ.mp nd).1 (aN.mpr (mY Eo))
         | succ i =>
           refine ih i j (by omega) (by simpa using e1) Eo ?_
           cases o with
           | none=>simpa [roots] using nd
           | some b=>simp only [roots,mZ,id] at nd; exact (qQ.mp nd).2
    rcases Nat.lt_or_gt_of_ne ne with l | l
    · exact key O j i l q h1 I.nd
    · exact key O i j l h1 q I.nd
 have WJ:a∉av Z (O.set i none):=fun z=>by
  rcases jA.mp z with z | z
  · exact na z
  · exact (I.own a ha).2.1 z
 refine ⟨by simp [I.lσ],by simp [I.lO],fun j e h=>?_,fF _ _ I.nd,fun a h=>I.own a (cb i a h),fun p q=>?_,I.ox,I.keep,fun p q=>fw (I.nz p q)⟩
 · rcases get_set h with ⟨rfl,rfl,hl⟩ | ⟨ne,h⟩
   · exact ⟨none,some (.ref a),by rw [x5 (by rw [I.lO]; exact hl)],h2,rfl,.ref a,rfl,(hr.bq (bX j)).at WJ⟩
   · obtain ⟨o,s,h1,h2,h3⟩:=I.sl j e h
     exact ⟨o,s,by rw [t7 (Ne.symm ne)]; exact h1,h2,h3.map (fun _ _ q=>fw q) fun _ _ _ q=>q.bq (bX i)⟩
 · rw [t7 (Ne.symm (hp p q))]; exact I.par p q
theorem az.wrote (I:az K Z tm O ρ σ H) {i:Nat} {t t':T} {a:Addr} {u:HO} (hi:ρ[i]?=some (some (t,true))) (hO:O[i]?=some (some a)) (hr:cq K (upd H a u) (av Z O) a t'):az K Z tm O (ρ.set i (some (t',true))) σ (upd H a u):=by
 have ha:a∈roots O:=aN.mpr (mY hO)
 have Fp:a∈av Z O:=mz _ ha
 obtain ⟨hP,hx,u0,e0,m0⟩:=I.own a ha
 have inj:∀ j b,j≠i→O[j]?=some (some b)→b≠a:=by
  intro j b ne hj e
  subst e
  have key:∀ (O:List (Option Addr)) (i j:Nat),i < j→O[i]?=some (some b)→O[j]?=some (some b)→(roots O).Nodup→False:=by
   intro O
   induction O with
   | nil=>intro i j _ h; simp at h
   | cons o O ih =>
     intro i j Fo e1 e2 nd
     cases j with
     | zero=>omega
     | succ j =>
       have Eo:O[j]?=some (some b):=by simpa using e2
       cases i with
       | zero =>
         have:o=some b:=by simpa using e1
         subst this
         simp only [roots,mZ,id] at nd
         exact (qQ.mp nd).1 (aN.mpr (mY Eo))
       | succ i =>
         refine ih i j (by omega) (by simpa using e1) Eo ?_
         cases o with
         | none=>simpa [roots] using nd
         | some c=>simp only [roots,mZ,id] at nd; exact (qQ.mp nd).2
  rcases Nat.lt_or_gt_of_ne ne with l | l
  · exact key O j i l hj hO I.nd
  · exact key O i j l hO hj I.nd
 refine ⟨by simp [I.lσ],by simp [I.lO],fun j e h=>?_,I.nd,fun b h=>?_,I.par,fun b h=>?_,fun b o e n=>?_,fun p q=>(I.nz p q).wrote Fp e0 m0⟩
 · rcases get_set h with ⟨rfl,rfl,hl⟩ | ⟨ne,h⟩
   · obtain ⟨o,s,h1,h2,a',h4,h5,h6⟩:=I.sl j _ hi
     rw [hO] at h1
     cases h1
     cases h4
     exact ⟨_,s,hO,h2,a,rfl,h5,hr⟩
   · obtain ⟨o,s,h1,h2,h3⟩:=I.sl j e h
     refine ⟨o,s,h1,h2,h3.map (fun _ _ q=>q.wrote Fp e0 m0) fun b t e q=>?_⟩
     subst e
     exact q.map (aH (inj j b ne h1)) fun _ _ z=>z.wrote Fp e0 m0
 · obtain ⟨h1,h2,v,e,m⟩:=I.own b h
   by_cases hb:b=a
   · subst hb; exact ⟨h1,h2,hr.mut⟩
   · exact ⟨h1,h2,v,by rw [aH hb]; exact e,m⟩
 · by_cases hb:b=a
   · subst hb; exact absurd h hx
   · rw [aH hb]; exact I.ox b h
 · by_cases hb:b=a
   · subst hb
     rcases hP with q | q
     · exact absurd q n
     · rw [q] at e; cases e
   · rw [aH hb]; exact I.keep b o e n
theorem az.fresh (I:az K Z tm O ρ σ H) {a:Addr} (h:H a=none):a∉av Z O∧a∉Z.Ox∧Z.H0 a=none:=by
 refine ⟨fun z=>I.Kb a z h,fun z=>I.ox a z h,?_⟩
 cases e:Z.H0 a with
 | none=>rfl
 | some o =>
   by_cases hp:a∈Z.P.map (·.2)
   · obtain ⟨p,QY,rfl⟩:=y_.mp hp
     obtain ⟨_,_,u,e',_⟩:=I.own p.2 (aN.mpr (mY (I.par p QY)))
     rw [h] at e'; cases e'
   · rw [I.keep a o e hp] at h; cases h
theorem cV {a:Addr}:∀ b∈av (Z.ex a) O,b∈av Z O∨b=a:=fun b h=>by
 rcases jA.mp h with h | h
 · exact .inl (mz _ h)
 · rcases dS.mp h with h | h
   · exact .inr h
   · exact .inl (k8 _ h)
theorem je {a:Addr}:∀ b∈av Z O,b∈av (Z.ex a) O:=fun b h=>by
 rcases jA.mp h with h | h
 · exact mz _ h
 · exact k8 _ (jc _ h)
theorem az.new (I:az K Z tm O ρ σ H) {a:Addr} {u:HO} (h:H a=none) (hu:uj u=true):az K (Z.ex a) tm O ρ σ (upd H a u):=by
 have s:aJ H (upd H a u):=aS h
 have J:=I.same s
 obtain ⟨n1,n2,n3⟩:=I.fresh h
 have mr:∀ b∈av (Z.ex a) O,b∈av Z O∨H b=none:=fun b hb=>(cV b hb).imp id fun e=>by rw [e]; exact h
 have fw:∀ {t:T} {v:V},At K H (av Z O) t v→At K (upd H a u) (av (Z.ex a) O) t v:=fun q=>(q.more mr).same s
 refine ⟨J.lσ,J.lO,fun i e hi=>?_,J.nd,fun b hb=>?_,J.par,fun b hb=>?_,J.keep,fun p hp=>fw (I.nz p hp)⟩
 · obtain ⟨o,w,h1,h2,h3⟩:=I.sl i e hi
   refine ⟨o,w,h1,h2,h3.map (fun _ _ q=>fw q) fun b t eo q=>?_⟩
   refine cq.same (q.map rfl fun _ _ z=>z.more mr) s
 · obtain ⟨q1,q2,q3⟩:=J.own b hb
   refine ⟨q1,fun z=>?_,q3⟩
   rcases dS.mp z with z | z
   · exact n1 (by rw [← z]; exact mz _ hb)
   · exact q2 z
 · rcases dS.mp hb with z | z
   · rw [z,aU]; simp
   · exact J.ox b z
theorem az.SM {a:Addr} (I:az K (Z.ex a) tm O ρ σ H):az K Z tm O ρ σ H :=
 ⟨I.lσ,I.lO,fun i e h=>let ⟨o,w,h1,h2,h3⟩:=I.sl i e h; ⟨o,w,h1,h2,h3.map (fun _ _ q=>q.bq je) fun _ _ _ q=>q.bq je⟩,I.nd,
   fun b h=>let ⟨q1,q2,q3⟩:=I.own b h; ⟨q1,fun z=>q2 (jc _ z),q3⟩,I.par,fun b h=>I.ox b (jc _ h),I.keep,fun p hp=>(I.nz p hp).bq je⟩
end
inductive Rt where
 | vw (t:T)
 | fr (t:T)
def Rt.t:Rt→T
 | .vw t=>t
 | .fr t=>t
def gD (K:PySem.W.Frag) (H:Hp) (A:List Addr) (t:T) (v:V):Prop:=At K H A t v∨∃ a,v = .ref a∧cq K H A a t
def iL (K:PySem.W.Frag) (Z:Zc) (tm:List (T×V)) (O:List (Option Addr)) (ρ:En) (σ:St) (H:Hp):Rt→V→Prop
 | .vw t,v=>az K Z tm O ρ σ H∧At K H (av Z O) t v
 | .fr t,v=>∃ a,v = .ref a∧az K (Z.ex a) tm O ρ σ H∧cq K H (av (Z.ex a) O) a t∧Z.H0 a=none∧a∉Z.Ox
abbrev FE:=En→(T→Prop)→Prop
abbrev FP:=En→(Rt→Prop)→Prop
abbrev FX:=En→(En→Rt→Prop)→Prop
abbrev FB:=En→(Bool→Prop)→Prop
abbrev FA:=En→(List T→Prop)→Prop
section
variable {K:PySem.W.Frag} {Z:Zc} {tm:List (T×V)} {O:List (Option Addr)} {ρ:En} {σ:St} {H H':Hp} {A:List Addr}
theorem gD.same {t:T} {v:V} (s:aJ H H') (h:gD K H A t v):gD K H' A t v:=h.imp (fun q=>q.same s) fun ⟨a,e,q⟩=>⟨a,e,q.same s⟩
theorem gD.lst {ts:List T} {v:V} (h:gD K H A (.lst ts) v):∃ a vs,v = .ref a∧eI K H a vs∧aG K H A ts vs:=by
 rcases h with h | ⟨a,rfl,vs,e,q⟩
 · simp only [At] at h
   obtain ⟨a,vs,rfl,l,q⟩:=h
   exact ⟨a,vs,rfl,l.sq,q⟩
 · exact ⟨a,vs,rfl,eI.of e,q⟩
theorem gD.tup {ts:List T} {v:V} (h:gD K H A (.tup ts) v):∃ a vs,v = .ref a∧dw K H a vs∧aG K H A ts vs:=by
 rcases h with h | ⟨a,rfl,q⟩
 · simpa only [At] using h
 · exact q.elim
theorem gD.dk {ks:List Key} {ts:List T} {v:V} (h:gD K H A (.dk ks ts) v):∃ a vs,v = .ref a∧ks.length=vs.length∧H a=some (.dK (ks.zip vs))∧aG K H A ts vs:=by
 rcases h with h | ⟨a,rfl,vs,l,e,q⟩
 · simp only [At] at h
   obtain ⟨a,vs,rfl,l,d,q⟩:=h
   exact ⟨a,vs,rfl,l,d.1,q⟩
 · exact ⟨a,vs,rfl,l,e,q⟩
theorem gD.dt {ks:List (List Key)} {ts:List T} {v:V} (h:gD K H A (.dt ks ts) v):∃ a vs,v = .ref a∧ks.length=vs.length∧H a=some (.dT (ks.zip vs))∧aG K H A ts vs:=by
 rcases h with h | ⟨a,rfl,vs,l,e,q⟩
 · simp only [At] at h
   obtain ⟨a,vs,rfl,l,d,q⟩:=h
   exact ⟨a,vs,rfl,l,d.1,q⟩
 · exact ⟨a,vs,rfl,l,e,q⟩
theorem gD.df {o:Obj} {ks:List (List Key)} {ts:List T} {v:V} (h:gD K H A (.df o ks ts) v):∃ a vs,v = .ref a∧ks.length=vs.length∧H a=some (.tV o (.dT (ks.zip vs)))∧aG K H A ts vs:=by
 rcases h with h | ⟨a,rfl,q⟩
 · simp only [At] at h
   obtain ⟨a,vs,rfl,l,d,q⟩:=h
   exact ⟨a,vs,rfl,l,d.1,q⟩
 · exact q.elim
theorem gD.dz {o:Obj} {ks:List Key} {ts:List T} {v:V} (h:gD K H A (.dz o ks ts) v):∃ a vs,v = .ref a∧ks.length=vs.length∧H a=some (.tV o (.dK (ks.zip vs)))∧aG K H A ts vs:=by
 rcases h with h | ⟨a,rfl,q⟩
 · simp only [At] at h
   obtain ⟨a,vs,rfl,l,d,q⟩:=h
   exact ⟨a,vs,rfl,l,d.1,q⟩
 · exact q.elim
theorem gD.kt {k:List Key} {v:V} (h:gD K H A (.kt k) v):∃ a,v = .ref a∧H a=some (.tup (k.map kV)):=by
 rcases h with h | ⟨a,rfl,q⟩
 · simp only [At] at h
   obtain ⟨a,rfl,d⟩:=h
   exact ⟨a,rfl,d.1⟩
 · exact q.elim
theorem gD.ins {C:Addr} {ns:List Str} {ts:List T} {v:V} (h:gD K H A (.ins C ns ts) v):∃ a dx vs,v = .ref a∧ns.length=vs.length∧H a=some (.ins C dx (ns.zip vs))∧aG K H A ts vs:=by
 rcases h with h | ⟨a,rfl,dx,vs,l,e,q⟩
 · simp only [At] at h
   obtain ⟨a,dx,vs,rfl,l,d,q⟩:=h
   exact ⟨a,dx,vs,rfl,l,d.1,q⟩
 · exact ⟨a,dx,vs,rfl,l,e,q⟩
theorem gD.int {i:Int} {v:V} (h:gD K H A (.int i) v):v = .int i:=h.elim (fun q=>by simpa only [At] using q) fun ⟨_,_,q⟩=>q.elim
theorem gD.str {i:Str} {v:V} (h:gD K H A (.str i) v):v = .str i:=h.elim (fun q=>by simpa only [At] using q) fun ⟨_,_,q⟩=>q.elim
theorem gD.bl {i:Bool} {v:V} (h:gD K H A (.bl i) v):v = .bl i:=h.elim (fun q=>by simpa only [At] using q) fun ⟨_,_,q⟩=>q.elim
theorem gD.bh {v:V} (h:gD K H A .bh v):v = .bh:=h.elim (fun q=>by simpa only [At] using q) fun ⟨_,_,q⟩=>q.elim
theorem gD.ob {a:Addr} {v:V} (h:gD K H A (.ob a) v):v = .ref a:=h.elim (fun q=>by simpa only [At] using q) fun ⟨_,_,q⟩=>q.elim
theorem bE {i:Int}:At K H A (.int i) (.int i):=by simp only [At]
theorem bZ {i:Str}:At K H A (.str i) (.str i):=by simp only [At]
theorem cu {i:Bool}:At K H A (.bl i) (.bl i):=by simp only [At]
theorem lp:At K H A .bh .bh:=by simp only [At]
theorem bz {ts:List T} {a:Addr} {vs:List V} (h:dw K H a vs) (q:aG K H A ts vs):At K H A (.tup ts) (.ref a):=by simp only [At]; exact ⟨a,vs,rfl,h,q⟩
theorem iL.env {r:Rt} {v:V} (h:iL K Z tm O ρ σ H r v):az K Z tm O ρ σ H:=by
 cases r with
 | vw t=>exact h.1
 | fr t=>obtain ⟨a,_,I,_⟩:=h; exact I.SM
theorem iL.at {r:Rt} {v:V} (h:iL K Z tm O ρ σ H r v):At K H (av Z O) r.t v:=by
 cases r with
 | vw t=>exact h.2
 | fr t =>
   obtain ⟨a,rfl,I,q,_,hx⟩:=h
   refine (q.bq je).at fun z=>?_
   rcases jA.mp z with z | z
   · exact (I.own a z).2.1 jz
   · exact hx z
theorem az.BQ (I:az K Z tm O ρ σ H) {a:Addr} {ts:List T} {vs:List V} (h:H a=none) (q:aG K H (av Z O) ts vs):iL K Z tm O ρ σ (upd H a (.lst vs)) (.fr (.lst ts)) (.ref a):=by
 obtain ⟨n1,n2,n3⟩:=I.fresh h
 exact ⟨a,rfl,I.new h rfl,⟨vs,aU,(q.more fun b hb=>(cV b hb).imp id fun e=>by rw [e]; exact h).same (aS h)⟩,n3,n2⟩
theorem az.newD (I:az K Z tm O ρ σ H) {a:Addr} {ks:List Key} {ts:List T} {vs:List V} (h:H a=none) (hl:ks.length=vs.length) (q:aG K H (av Z O) ts vs):iL K Z tm O ρ σ (upd H a (.dK (ks.zip vs))) (.fr (.dk ks ts)) (.ref a):=by
 obtain ⟨n1,n2,n3⟩:=I.fresh h
 exact ⟨a,rfl,I.new h rfl,⟨vs,hl,aU,(q.more fun b hb=>(cV b hb).imp id fun e=>by rw [e]; exact h).same (aS h)⟩,n3,n2⟩
end
structure Bx (p:List (T×V)→Prop):Prop where
 h:∀ tm,p tm
section
variable (X:Cx) (Z:Zc)
def lR (tm:List (T×V)) (f:FE):TE:=fun σ H Q=>∃ ρ O q,az X.K Z tm O ρ σ H∧f ρ q∧∀ t,q t→∀ v H',aJ H H'→gD X.K H' (av Z O) t v→Q v H'
def lE (tm:List (T×V)) (f:FE):TE:=fun σ H Q=>∃ ρ O q,az X.K Z tm O ρ σ H∧f ρ q∧∀ t,q t→∀ v H',aJ H H'→At X.K H' (av Z O) t v→Q v H'
def lP (tm:List (T×V)) (f:FP):TE:=fun σ H Q=>∃ ρ O q,az X.K Z tm O ρ σ H∧f ρ q∧∀ r,q r→∀ v H',aJ H H'→iL X.K Z tm O ρ σ H' r v→Q v H'
def lX (tm:List (T×V)) (f:FX):TE:=fun σ H Q=>∃ ρ O q,az X.K Z tm O ρ σ H∧f ρ q∧∀ ρ' r,q ρ' r→∀ O' v H',iL X.K Z tm O' ρ' σ H' r v→Q v H'
def lB (tm:List (T×V)) (f:FB):TT:=fun σ H Q=>∃ ρ O q,az X.K Z tm O ρ σ H∧f ρ q∧∀ b,q b→∀ H',aJ H H'→Q b H'
def lA (tm:List (T×V)) (f:FA):TA:=fun σ H Q=>∃ ρ O q,az X.K Z tm O ρ σ H∧f ρ q∧∀ ts,q ts→∀ vs H',aJ H H'→aG X.K H' (av Z O) ts vs→Q vs H'
def Vp (tm:List (T×V)) (f:FA):TA:=fun σ H Q=>∃ ρ O q,az X.K Z tm O ρ σ H∧f ρ q∧∀ ts,q ts→∀ vs H',aJ H H'→Paired (fun v t=>gD X.K H' (av Z O) t v) vs ts→Q vs H'
def VR (e:Expr) (f:FE):Prop:=Bx fun tm=>PE X e (lR X Z tm f)
instance {e:Expr} {f:FE}:CoeFun (VR X Z e f) fun _=>∀ tm,PE X e (lR X Z tm f):=⟨fun h=>Bx.h h⟩
def VE (e:Expr) (f:FE):Prop:=Bx fun tm=>PE X e (lE X Z tm f)
instance {e:Expr} {f:FE}:CoeFun (VE X Z e f) fun _=>∀ tm,PE X e (lE X Z tm f):=⟨fun h=>Bx.h h⟩
def VP (e:Expr) (f:FP):Prop:=Bx fun tm=>PE X e (lP X Z tm f)
instance {e:Expr} {f:FP}:CoeFun (VP X Z e f) fun _=>∀ tm,PE X e (lP X Z tm f):=⟨fun h=>Bx.h h⟩
def VX (e:Expr) (f:FX):Prop:=Bx fun tm=>PE X e (lX X Z tm f)
instance {e:Expr} {f:FX}:CoeFun (VX X Z e f) fun _=>∀ tm,PE X e (lX X Z tm f):=⟨fun h=>Bx.h h⟩
def VC (e:Expr) (f:FB):Prop:=Bx fun tm=>PT X e (lB X Z tm f)
instance {e:Expr} {f:FB}:CoeFun (VC X Z e f) fun _=>∀ tm,PT X e (lB X Z tm f):=⟨fun h=>Bx.h h⟩
def VW (e:Expr) (f:FB):Prop:=Bx fun tm=>PW X e (lB X Z tm f)
instance {e:Expr} {f:FB}:CoeFun (VW X Z e f) fun _=>∀ tm,PW X e (lB X Z tm f):=⟨fun h=>Bx.h h⟩
def VA (es:List Expr) (f:FA):Prop:=Bx fun tm=>PA X es (lA X Z tm f)
instance {es:List Expr} {f:FA}:CoeFun (VA X Z es f) fun _=>∀ tm,PA X es (lA X Z tm f):=⟨fun h=>Bx.h h⟩
def Es (es:List Expr) (f:FA):Prop:=Bx fun tm=>PA X es (Vp X Z tm f)
instance {es:List Expr} {f:FA}:CoeFun (Es X Z es f) fun _=>∀ tm,PA X es (Vp X Z tm f):=⟨fun h=>Bx.h h⟩
end
theorem PE.weak {X:Cx} {e:Expr} {t t':TE} (h:PE X e t) (hw:∀ σ H Q,t' σ H Q→t σ H Q):PE X e t':=fun pins s σ H Q I q=>h pins s σ H Q I (hw _ _ _ q)
theorem PT.weak {X:Cx} {e:Expr} {t t':TT} (h:PT X e t) (hw:∀ σ H Q,t' σ H Q→t σ H Q):PT X e t':=fun pins s σ H Q I q=>h pins s σ H Q I (hw _ _ _ q)
theorem PW.weak {X:Cx} {e:Expr} {t t':TT} (h:PW X e t) (hw:∀ σ H Q,t' σ H Q→t σ H Q):PW X e t':=fun wh pins s σ H Q I q=>h wh pins s σ H Q I (hw _ _ _ q)
theorem PA.weak {X:Cx} {e:List Expr} {t t':TA} (h:PA X e t) (hw:∀ σ H Q,t' σ H Q→t σ H Q):PA X e t':=fun pos pins s σ H Q I q=>h pos pins s σ H Q I (hw _ _ _ q)
theorem PS.weak {X:Cx} {b:Stmt} {t t':TS} (h:PS X b t) (hw:∀ D σ H,t' D σ H→t D σ H):PS X b t':=fun pins s σ H D I q=>h pins s σ H D I (hw D σ H q)
theorem nh.um {X:Cx} {b:List Stmt} {t t':TS} (h:nh X b t) (hw:∀ D σ H,t' D σ H→t D σ H):nh X b t':=fun pins s σ H D I q=>h pins s σ H D I (hw D σ H q)
section
variable {X:Cx} {Z:Zc} {e a b:Expr} {es:List Expr} {pos:Pos}
theorem VE.vr {f:FE} (h:VE X Z e f):VR X Z e f:=.mk fun tm=>PE.weak (h tm) fun σ H Q ⟨ρ,O,q,I,hf,k⟩=>⟨ρ,O,q,I,hf,fun t ht v H' s z=>k t ht v H' s (.inl z)⟩
def fT (f:FP):FE:=fun ρ Q=>f ρ fun r=>Q r.t
def fV (f:FE):FP:=fun ρ Q=>f ρ fun t=>Q (.vw t)
def fX (f:FP):FX:=fun ρ Q=>f ρ fun r=>Q ρ r
theorem VP.ve {f:FP} (h:VP X Z e f):VE X Z e (fT f):=.mk fun tm=>PE.weak (h tm) fun σ H Q ⟨ρ,O,q,I,hf,k⟩=>⟨ρ,O,fun r=>q r.t,I,hf,fun r hr v H' s z=>k r.t hr v H' s z.at⟩
theorem VP.vr {f:FP} (h:VP X Z e f):VR X Z e (fT f):=h.ve.vr
theorem VP.vx {f:FP} (h:VP X Z e f):VX X Z e (fX f):=.mk fun tm=>PE.weak (h tm) fun σ H Q ⟨ρ,O,q,I,hf,k⟩=>⟨ρ,O,fun r=>q ρ r,I,hf,fun r hr v H' s z=>k ρ r hr O v H' z⟩
theorem VE.vp {f:FE} (h:VE X Z e f):VP X Z e (fV f):=.mk fun tm=>PE.weak (h tm) fun σ H Q ⟨ρ,O,q,I,hf,k⟩=>⟨ρ,O,fun t=>q (.vw t),I,hf,fun t hr v H' s z=>k (.vw t) hr v H' s ⟨I.same s,z⟩⟩
def N9 (i:Nat):FE:=fun ρ Q=>match ρ[i]? with
 | some (some (t,false))=>Q t
 | _=>False
def HL (i:Nat):FE:=fun ρ Q=>match ρ[i]? with
 | some (some (t,_))=>Q t
 | _=>False
theorem aq (i:Nat) {x:Str} (hN:X.N[i]?=some x:=by rfl) (hv:rR X.env.scope x:=by first | exact Or.inl rfl | exact Or.inr (Or.inl rfl) | exact Or.inr (Or.inr rfl)) (hd:gg x:=by decide)
  (iA:tZ x:=by decide):VE X Z (.Name x pos) (N9 i):=.mk fun tm=>PE.weak (cQ hN hv hd iA) fun σ H Q ⟨ρ,O,q,I,hf,k⟩=>by
 unfold N9 at hf
 split at hf
 · rename_i t e
   obtain ⟨o,s,h1,h2,rfl,v,rfl,h3⟩:=I.sl i _ e
   exact ⟨v,h2,k t hf v H (aJ.refl H) h3⟩
 · exact hf.elim
theorem aa (i:Nat) {x:Str} (hN:X.N[i]?=some x:=by rfl) (hv:rR X.env.scope x:=by first | exact Or.inl rfl | exact Or.inr (Or.inl rfl) | exact Or.inr (Or.inr rfl)) (hd:gg x:=by decide)
  (iA:tZ x:=by decide):VR X Z (.Name x pos) (HL i):=.mk fun tm=>PE.weak (cQ hN hv hd iA) fun σ H Q ⟨ρ,O,q,I,hf,k⟩=>by
 unfold HL at hf
 split at hf
 · rename_i t b e
   obtain ⟨o,s,h1,h2,h3⟩:=I.sl i _ e
   cases b with
   | false=>obtain ⟨rfl,v,rfl,h3⟩:=h3; exact ⟨v,h2,k t hf v H (aJ.refl H) (.inl h3)⟩
   | true=>obtain ⟨a,rfl,rfl,h3⟩:=h3; exact ⟨_,h2,k t hf _ H (aJ.refl H) (.inr ⟨a,rfl,h3⟩)⟩
 · exact hf.elim
def fC (t:T):FP:=fun _ Q=>Q (.vw t)
theorem BR {t:T} {v:V} (h:PE X e (tC v)) (ht:∀ H A,At X.K H A t v):VP X Z e (fC t):=.mk fun tm=>PE.weak h fun σ H Q ⟨ρ,O,q,I,hf,k⟩=>k _ hf v H (aJ.refl H) ⟨I,ht _ _⟩
theorem ag {i j pos}:VP X Z (.Constant (.int i) j pos) (fC (.int i)):=BR Jg fun _ _=>bE
theorem jC {i j pos}:VP X Z (.Constant (.bool i) j pos) (fC (.bl i)):=BR Nh fun _ _=>cu
theorem ao {i j pos}:VP X Z (.Constant (.str i) j pos) (fC (.str i)):=BR Ji fun _ _=>bZ
theorem gK {j pos}:VP X Z (.Constant .none j pos) (fC .bh):=BR Jh fun _ _=>lp
theorem ei {x:Str} {t:T} {v:V} {u:Value} (hg:Gl X x) (hm:X.mg x=some u) (r:RelV v u) (ht:∀ H A,At X.K H A t v) (hd:gg x:=by decide):VP X Z (.Name x pos) (fC t):=BR (rS hg hm r hd) ht
def nW (K:PySem.W.Frag) (r:R2) (p:T→T→(Rt→Prop)→Prop):Prop :=
 ∀ (Z:Zc) (tm:List (T×V)) (O:List (Option Addr)) (ρ:En) (σ:St) (H:Hp) (x y:T) (v w:V) (q:Rt→Prop) (Q:VK),az K Z tm O ρ σ H→gD K H (av Z O) x v→gD K H (av Z O) y w→p x y q →
  (∀ t,q t→∀ u H',aJ H H'→iL K Z tm O ρ σ H' t u→Q u H')→r v w H Q
def f2 (fa fb:FE) (p:T→T→(Rt→Prop)→Prop):FP:=fun ρ Q=>fa ρ fun x=>fb ρ fun y=>p x y Q
theorem two {r:R2} {fa fb:FE} {p:T→T→(Rt→Prop)→Prop} (ho:nW X.K r p) {tm:List (T×V)}:∀ σ H Q,lP X Z tm (f2 fa fb p) σ H Q→Nw r (lR X Z tm fa) (lR X Z tm fb) σ H Q:=fun σ H Q ⟨ρ,O,q,I,hf,k⟩ =>
 ⟨ρ,O,fun x=>fb ρ fun y=>p x y q,I,hf,fun x hx v H1 s1 a1=>⟨ρ,O,fun y=>p x y q,I.same s1,hx,fun y hy w H2 s2 a2 =>
   ho Z tm O ρ σ H2 x y v w q Q ((I.same s1).same s2) (a1.same s2) a2 hy fun t ht u H' s a=>k t ht u H' ((s1.trans s2).trans s) a⟩⟩
theorem lq {op:Operator} {r:R2} {fa fb:FE} {p:T→T→(Rt→Prop)→Prop} (h:dY X (binaryOp op) r) (ho:nW X.K r p) (ha:VR X Z a fa) (hb:VR X Z b fb):VP X Z (.BinOp a op b pos) (f2 fa fb p) :=
 .mk fun tm=>PE.weak (Nx h (ha tm) (hb tm)) (two ho)
theorem nX {op:CmpOp} {r:R2} {fa fb:FE} {p:T→T→(Rt→Prop)→Prop} (h:dY X (compareOp op) r) (ho:nW X.K r p) (ha:VR X Z a fa) (hb:VR X Z b fb) (hm:behindInMarks op b=false):VP X Z (.Compare a [op] [b] pos) (f2 fa fb p) :=
 .mk fun tm=>PE.weak (E3 h (ha tm) (hb tm) hm) (two ho)
def qm (f:FP):FB:=fun ρ Q=>f ρ fun r=>match r with
 | .vw (.bl c)=>Q c
 | _=>False
theorem wj {r:Rt} {Q:Bool→Prop} (h:match r with | .vw (.bl c)=>Q c | _=>False):∃ c,r = .vw (.bl c)∧Q c:=by
 split at h
 · exact ⟨_,rfl,h⟩
 · exact h.elim
theorem jO {op:CmpOp} {r:R2} {fa fb:FE} {p:T→T→(Rt→Prop)→Prop} (h:dY X (compareOp op) r) (ho:nW X.K r p) (ha:VR X Z a fa) (hb:VR X Z b fb) (hm:behindInMarks op b=false):VC X Z (.Compare a [op] [b] pos) (qm (f2 fa fb p)) :=
 .mk fun tm=>PT.weak (E4 h (ha tm) (hb tm) hm) fun σ H Q ⟨ρ,O,q,I,hf,k⟩=>two ho σ H _ ⟨ρ,O,_,I,hf,fun t ht u H' s a=>by
  obtain ⟨c,rfl,hc⟩:=wj ht
  have e:=a.2
  simp only [At] at e
  exact ⟨c,e,k c hc H' s⟩⟩
theorem cS {f:FP} (h:VP X Z e f) (he:∀ whole,isTrue e X.env whole=(do let v ← whole; standAt e.pos; holding [v] (truthy v)):=by intro _; rfl):VC X Z e (qm f) :=
 .mk fun tm=>PT.weak (Jj (h tm) he) fun σ H Q ⟨ρ,O,q,I,hf,k⟩=>⟨ρ,O,_,I,hf,fun t ht u H' s a=>by
  obtain ⟨c,rfl,hc⟩:=wj ht
  have e:=a.2
  simp only [At] at e
  exact ⟨c,e,k c hc H' s⟩⟩
def SN (f g:FB):FB:=fun ρ Q=>f ρ fun c=>if c=true then g ρ Q else Q false
def WK (f g:FB):FB:=fun ρ Q=>f ρ fun c=>if c=true then Q true else g ρ Q
def SO (f:FB):FB:=fun ρ Q=>f ρ fun c=>Q (!c)
theorem VW.vc {f:FB} (h:VW X Z e f):VC X Z e f:=.mk fun tm=>PW.pt (h tm)
theorem cy {f:FB} (h:VC X Z a f):VW X Z (.BoolOp .And [a] pos) f:=.mk fun tm=>pw_and1 (h tm)
theorem fO {f:FB} (h:VC X Z a f):VW X Z (.BoolOp .Or [a] pos) f:=.mk fun tm=>pw_or1 (h tm)
theorem c9 {rest:List Expr} {f g:FB} (h:VC X Z a f) (h':VW X Z (.BoolOp .And (b :: rest) pos) g):VW X Z (.BoolOp .And (a :: b :: rest) pos) (SN f g) :=
 .mk fun tm=>PW.weak (pw_and (h tm) (h' tm)) fun σ H Q ⟨ρ,O,q,I,hf,k⟩=>⟨ρ,O,_,I,hf,fun c hc H1 s1=>by
  cases c with
  | true=>rw [if_pos rfl] at hc ⊢; exact ⟨ρ,O,q,I.same s1,hc,fun b hb H' s=>k b hb H' (s1.trans s)⟩
  | false=>rw [if_neg nL] at hc ⊢; exact k false hc H1 s1⟩
theorem iM {rest:List Expr} {f g:FB} (h:VC X Z a f) (h':VW X Z (.BoolOp .Or (b :: rest) pos) g):VW X Z (.BoolOp .Or (a :: b :: rest) pos) (WK f g) :=
 .mk fun tm=>PW.weak (pw_or (h tm) (h' tm)) fun σ H Q ⟨ρ,O,q,I,hf,k⟩=>⟨ρ,O,_,I,hf,fun c hc H1 s1=>by
  cases c with
  | true=>rw [if_pos rfl] at hc ⊢; exact k true hc H1 s1
  | false=>rw [if_neg nL] at hc ⊢; exact ⟨ρ,O,q,I.same s1,hc,fun b hb H' s=>k b hb H' (s1.trans s)⟩⟩
theorem c_ {f:FB} (h:VC X Z a f):VC X Z (.UnaryOp .Not a pos) (SO f) :=
 .mk fun tm=>PT.weak (Jk (h tm)) fun σ H Q ⟨ρ,O,q,I,hf,k⟩=>⟨ρ,O,_,I,hf,fun c hc H1 s1=>k _ hc H1 s1⟩
def N_ (f g:FP):FP:=fun ρ Q=>f ρ fun r=>match r with
 | .vw (.bl true)=>g ρ Q
 | .vw (.bl false)=>Q (.vw (.bl false))
 | _=>False
def SQ (f g:FP):FP:=fun ρ Q=>f ρ fun r=>match r with
 | .vw (.bl true)=>Q (.vw (.bl true))
 | .vw (.bl false)=>g ρ Q
 | _=>False
def N' (f:FP):FP:=fun ρ Q=>f ρ fun r=>match r with
 | .vw (.bl c)=>Q (.vw (.bl (!c)))
 | _=>False
theorem jP {op} {f:FP} (h:VP X Z a f):VP X Z (.BoolOp op [a] pos) f:=.mk fun tm=>Jl (h tm)
theorem lr {rest:List Expr} {f g:FP} (h:VP X Z a f) (h':VP X Z (.BoolOp .And (b :: rest) pos) g):VP X Z (.BoolOp .And (a :: b :: rest) pos) (N_ f g) :=
 .mk fun tm=>PE.weak (Jm (h tm) (h' tm)) fun σ H Q ⟨ρ,O,q,I,hf,k⟩=>⟨ρ,O,_,I,hf,fun r hr v H1 s1 z=>by
  split at hr
  · have e:=z.2; simp only [At] at e
    exact ⟨true,e,by rw [if_pos rfl]; exact ⟨ρ,O,q,I.same s1,hr,fun b hb v H' s=>k b hb v H' (s1.trans s)⟩⟩
  · have e:=z.2; simp only [At] at e
    exact ⟨false,e,by rw [if_neg nL]; exact k _ hr _ H1 s1 ⟨I.same s1,cu⟩⟩
  · exact hr.elim⟩
theorem BS {rest:List Expr} {f g:FP} (h:VP X Z a f) (h':VP X Z (.BoolOp .Or (b :: rest) pos) g):VP X Z (.BoolOp .Or (a :: b :: rest) pos) (SQ f g) :=
 .mk fun tm=>PE.weak (Nl (h tm) (h' tm)) fun σ H Q ⟨ρ,O,q,I,hf,k⟩=>⟨ρ,O,_,I,hf,fun r hr v H1 s1 z=>by
  split at hr
  · have e:=z.2; simp only [At] at e
    exact ⟨true,e,by rw [if_pos rfl]; exact k _ hr _ H1 s1 ⟨I.same s1,cu⟩⟩
  · have e:=z.2; simp only [At] at e
    exact ⟨false,e,by rw [if_neg nL]; exact ⟨ρ,O,q,I.same s1,hr,fun b hb v H' s=>k b hb v H' (s1.trans s)⟩⟩
  · exact hr.elim⟩
theorem Kc {f:FP} (h:VP X Z a f):VP X Z (.UnaryOp .Not a pos) (N' f) :=
 .mk fun tm=>PE.weak (Jn (h tm)) fun σ H Q ⟨ρ,O,q,I,hf,k⟩=>⟨ρ,O,_,I,hf,fun r hr v H1 s1 z=>by
  split at hr
  · have e:=z.2; simp only [At] at e
    exact ⟨_,e,k _ hr _ H1 s1 ⟨I.same s1,cu⟩⟩
  · exact hr.elim⟩
def BU:FA:=fun _ Q=>Q []
def uo (f:FE) (g:FA):FA:=fun ρ Q=>f ρ fun t=>g ρ fun ts=>Q (t :: ts)
theorem ai:VA X Z [] BU:=.mk fun tm=>PA.weak cR fun σ H Q ⟨ρ,O,q,I,hf,k⟩=>k _ hf [] H (aJ.refl H) aG.nil
theorem ae {f:FE} {g:FA} (h:VE X Z e f) (h':VA X Z es g) (hs:starEach (e :: es) X.env=(false,eval e X.env) :: starEach es X.env:=by rfl):VA X Z (e :: es) (uo f g) :=
 .mk fun tm=>PA.weak (bu (h tm) (h' tm) hs) fun σ H Q ⟨ρ,O,q,I,hf,k⟩=>⟨ρ,O,_,I,hf,fun t ht v H1 s1 a1=>⟨ρ,O,_,I.same s1,ht,fun ts gE vs H2 s2 a2=>k _ gE _ H2 (s1.trans s2) (aG.cons (a1.same s2) a2)⟩⟩
theorem aw:Es X Z [] BU:=.mk fun tm=>PA.weak cR fun σ H Q ⟨ρ,O,q,I,hf,k⟩=>k _ hf [] H (aJ.refl H) .nil
theorem ak {f:FE} {g:FA} (h:VR X Z e f) (h':Es X Z es g) (hs:starEach (e :: es) X.env=(false,eval e X.env) :: starEach es X.env:=by rfl):Es X Z (e :: es) (uo f g) :=
 .mk fun tm=>PA.weak (bu (h tm) (h' tm) hs) fun σ H Q ⟨ρ,O,q,I,hf,k⟩=>⟨ρ,O,_,I,hf,fun t ht v H1 s1 a1=>⟨ρ,O,_,I.same s1,ht,fun ts gE vs H2 s2 a2=>k _ gE _ H2 (s1.trans s2) (.cons (a1.same s2) a2)⟩⟩
def SR (g:FA):FP:=fun ρ Q=>g ρ fun ts=>ts.length≤sizeLine∧Q (.vw (.tup ts))
def SS (g:FA):FP:=fun ρ Q=>g ρ fun ts=>ts.length≤sizeLine∧Q (.fr (.lst ts))
theorem aX {g:FA} {x1} (h:VA X Z es g):VP X Z (.Tuple es x1 pos) (SR g) :=
 .mk fun tm=>PE.weak (JG (h tm)) fun σ H Q ⟨ρ,O,q,I,hf,k⟩=>⟨ρ,O,_,I,hf,fun ts gE vs H1 s1 a1=>⟨by rw [a1.length]; exact gE.1,fun p hp=>k _ gE.2 _ _ (s1.trans (aS hp)) ⟨(I.same s1).same (aS hp),bz (dw.of aU) (a1.same (aS hp))⟩⟩⟩
theorem bL {g:FA} (h:VA X Z es g):VP X Z (.List es pos) (SS g) :=
 .mk fun tm=>PE.weak (JH (h tm)) fun σ H Q ⟨ρ,O,q,I,hf,k⟩=>⟨ρ,O,_,I,hf,fun ts gE vs H1 s1 a1=>⟨by rw [a1.length]; exact gE.1,fun p hp=>k _ gE.2 _ _ (s1.trans (aS hp)) ((I.same s1).BQ hp a1)⟩⟩
end
mutual
def eqT:T→T→Bool
 | .bh,.bh=>true
 | .bl a,.bl b=>a == b
 | .bl a,.int b=>(if a then 1 else 0) == b
 | .int a,.bl b=>a == (if b then 1 else 0)
 | .int a,.int b=>a == b
 | .str a,.str b=>a == b
 | .tup a,.tup b=>eQ a b
 | .lst a,.lst b=>eQ a b
 | _,_=>false
def eQ:List T→List T→Bool
 | [],[]=>true
 | a :: as,b :: bs=>eqT a b && eQ as bs
 | _,_=>false
end
mutual
def plainT:T→Bool
 | .tup l=>bU l
 | .lst l=>bU l
 | .dk _ _=>false
 | .dt _ _=>false
 | .df _ _ _=>false
 | .dz _ _ _=>false
 | .kt _=>false
 | .ins _ _ _=>false
 | .pin _ _=>false
 | .ob _=>false
 | .ty _=>false
 | _=>true
def bU:List T→Bool
 | []=>true
 | t :: ts=>plainT t && bU ts
end
mutual
def dep:T→Nat
 | .tup l=>nY l+1
 | .lst l=>nY l+1
 | _=>0
def nY:List T→Nat
 | []=>0
 | t :: ts=>max (dep t) (nY ts)
end
mutual
theorem ku:∀ (t:T),plainT t=true→eqT t t=true
 | .bh,_=>by simp [eqT]
 | .bl _,_=>by simp [eqT]
 | .int _,_=>by simp [eqT]
 | .str _,_=>by simp [eqT]
 | .tup l,h=>by simp only [plainT] at h; simp only [eqT]; exact lu l h
 | .lst l,h=>by simp only [plainT] at h; simp only [eqT]; exact lu l h
 | .dk _ _,h=>by simp only [plainT] at h; cases h
 | .dt _ _,h=>by simp only [plainT] at h; cases h
 | .df _ _ _,h=>by simp only [plainT] at h; cases h
 | .dz _ _ _,h=>by simp only [plainT] at h; cases h
 | .kt _,h=>by simp only [plainT] at h; cases h
 | .ins _ _ _,h=>by simp only [plainT] at h; cases h
 | .pin _ _,h=>by simp only [plainT] at h; cases h
 | .ob _,h=>by simp only [plainT] at h; cases h
 | .ty _,h=>by simp only [plainT] at h; cases h
theorem lu:∀ (t:List T),bU t=true→eQ t t=true
 | [],_=>by simp [eQ]
 | t :: ts,h=>by
   simp only [bU,iC] at h
   simp only [eQ,iC]
   exact ⟨ku t h.1,lu ts h.2⟩
end
theorem iN:∀ {a b:List T},eQ a b=true→a.length=b.length
 | [],[],_=>rfl
 | a :: as,b :: bs,h=>by simp only [eQ,iC] at h; simp [iN h.2]
 | [],_ :: _,h=>by simp [eQ] at h
 | _ :: _,[],h=>by simp [eQ] at h
theorem iO:∀ {a b:List T},a.length=b.length→eQ a b=(List.range a.length).all fun j=>match a[j]?,b[j]? with
  | some x,some y=>eqT x y
  | _,_=>true
 | [],[],_=>by simp [eQ]
 | a :: as,b :: bs,h=>by
   have ih:=iO (a:=as) (b:=bs) (by simpa using h)
   simp only [eQ]
   rw [ih,IW,List.range_succ_eq_map,vP,List.all_map]
   rfl
 | [],_ :: _,h=>by simp at h
 | _ :: _,[],h=>by simp at h
theorem nZ:∀ {a b:List T},eQ a b=((List.range (min a.length b.length)).all (fun j=>match a[j]?,b[j]? with
  | some x,some y=>eqT x y
  | _,_=>true) && a.length == b.length)
 | a,b=>by
   by_cases h:a.length=b.length
   · rw [iO h,h,Nat.min_self]; simp
   · have e:(a.length == b.length)=false:=by simpa using h
     rw [e,Bool.and_false]
     cases q:eQ a b with
     | false=>rfl
     | true=>exact absurd (iN q) h
section
variable {X:Cx} {pins:List (Addr×Obj)} {σ:St} {H:Hp} {s:Shared} {O O':List Addr}
theorem uq (I:Inv X pins σ H s) {a:Addr} {xs ys:List V} (h:eI X.K H a xs) (h':dw X.K H a ys):False:=by
 obtain ⟨aK,_,p,_⟩:=I.list h
 obtain ⟨ej,_,p2,_⟩:=I.tuple h'
 obtain ⟨o,n,e,c,_⟩:=p
 obtain ⟨o2,e2,c2,_⟩:=p2
 rw [e] at e2
 cases e2
 rw [c] at c2
 injection c2 with c2
 exact absurd c2 (by decide)
mutual
theorem At.inj (I:Inv X pins σ H s):∀ {t u:T} {v:V},plainT t=true→plainT u=true→At X.K H O t v→At X.K H O' u v→t=u
 | .bh,u,v,_,pu,h,h'=>by
   simp only [At] at h; subst h
   cases u <;> simp only [At] at h' <;> first | rfl | (simp only [plainT] at pu; cases pu; done) | (obtain ⟨_,_,e,_⟩:=h'; cases e) | (cases h'; done)
 | .bl b,u,v,_,pu,h,h'=>by
   simp only [At] at h; subst h
   cases u <;> simp only [At] at h' <;> first | (simp only [plainT] at pu; cases pu; done) | (obtain ⟨_,_,e,_⟩:=h'; cases e; done) | (cases h'; rfl) | (cases h'; done)
 | .int b,u,v,_,pu,h,h'=>by
   simp only [At] at h; subst h
   cases u <;> simp only [At] at h' <;> first | (simp only [plainT] at pu; cases pu; done) | (obtain ⟨_,_,e,_⟩:=h'; cases e; done) | (cases h'; rfl) | (cases h'; done)
 | .str b,u,v,_,pu,h,h'=>by
   simp only [At] at h; subst h
   cases u <;> simp only [At] at h' <;> first | (simp only [plainT] at pu; cases pu; done) | (obtain ⟨_,_,e,_⟩:=h'; cases e; done) | (cases h'; rfl) | (cases h'; done)
 | .dk _ _,_,_,p,_,_,_=>by simp only [plainT] at p; cases p
 | .dt _ _,_,_,p,_,_,_=>by simp only [plainT] at p; cases p
 | .df _ _ _,_,_,p,_,_,_=>by simp only [plainT] at p; cases p
 | .dz _ _ _,_,_,p,_,_,_=>by simp only [plainT] at p; cases p
 | .kt _,_,_,p,_,_,_=>by simp only [plainT] at p; cases p
 | .ins _ _ _,_,_,p,_,_,_=>by simp only [plainT] at p; cases p
 | .pin _ _,_,_,p,_,_,_=>by simp only [plainT] at p; cases p
 | .ob _,_,_,p,_,_,_=>by simp only [plainT] at p; cases p
 | .ty _,_,_,p,_,_,_=>by simp only [plainT] at p; cases p
 | .tup ts,u,v,p,pu,h,h'=>by
   simp only [At] at h
   obtain ⟨a,vs,rfl,h1,h2⟩:=h
   cases u with
   | tup us =>
     simp only [At] at h'
     obtain ⟨b,ws,e,g1,g2⟩:=h'
     cases e
     cases I.lb h1 g1
     simp only [plainT] at p pu
     rw [aG.inj I p pu h2 g2]
   | lst us =>
     simp only [At] at h'
     obtain ⟨b,ws,e,g1,g2⟩:=h'
     cases e
     exact (uq I g1.sq h1).elim
   | dk _ _=>simp only [plainT] at pu; cases pu
   | dt _ _=>simp only [plainT] at pu; cases pu
   | df _ _ _=>simp only [plainT] at pu; cases pu
   | dz _ _ _=>simp only [plainT] at pu; cases pu
   | kt _=>simp only [plainT] at pu; cases pu
   | ins _ _ _=>simp only [plainT] at pu; cases pu
   | pin _ _=>simp only [plainT] at pu; cases pu
   | ob _=>simp only [plainT] at pu; cases pu
   | ty _=>simp only [plainT] at pu; cases pu
   | _=>simp only [At] at h'; cases h'
 | .lst ts,u,v,p,pu,h,h'=>by
   simp only [At] at h
   obtain ⟨a,vs,rfl,h1,h2⟩:=h
   cases u with
   | lst us =>
     simp only [At] at h'
     obtain ⟨b,ws,e,g1,g2⟩:=h'
     cases e
     cases I.kg h1.sq g1.sq
     simp only [plainT] at p pu
     rw [aG.inj I p pu h2 g2]
   | tup us =>
     simp only [At] at h'
     obtain ⟨b,ws,e,g1,g2⟩:=h'
     cases e
     exact (uq I h1.sq g1).elim
   | dk _ _=>simp only [plainT] at pu; cases pu
   | dt _ _=>simp only [plainT] at pu; cases pu
   | df _ _ _=>simp only [plainT] at pu; cases pu
   | dz _ _ _=>simp only [plainT] at pu; cases pu
   | kt _=>simp only [plainT] at pu; cases pu
   | ins _ _ _=>simp only [plainT] at pu; cases pu
   | pin _ _=>simp only [plainT] at pu; cases pu
   | ob _=>simp only [plainT] at pu; cases pu
   | ty _=>simp only [plainT] at pu; cases pu
   | _=>simp only [At] at h'; cases h'
theorem aG.inj (I:Inv X pins σ H s):∀ {ts us:List T} {vs:List V},bU ts=true→bU us=true→aG X.K H O ts vs→aG X.K H O' us vs→ts=us
 | [],[],_,_,_,_,_=>rfl
 | [],_ :: _,_,_,_,h,h'=>by simp only [aG] at h h'; subst h; obtain ⟨_,_,e,_⟩:=h'; cases e
 | _ :: _,[],_,_,_,h,h'=>by simp only [aG] at h h'; subst h'; obtain ⟨_,_,e,_⟩:=h; cases e
 | t :: ts,u :: us,_,p,pu,h,h'=>by
   simp only [aG] at h h'
   simp only [bU,iC] at p pu
   obtain ⟨v,r,rfl,h1,h2⟩:=h
   obtain ⟨v',r',e,g1,g2⟩:=h'
   cases e
   rw [At.inj I p.1 pu.1 h1 g1,aG.inj I p.2 pu.2 h2 g2]
end
theorem gL:∀ {ts:List T} {j:Nat} {x:T},ts[j]?=some x→dep x≤nY ts
 | [],_,_,h=>by simp at h
 | t :: ts,0,x,h=>by simp at h; subst h; simp only [nY]; omega
 | t :: ts,j+1,x,h=>by have:=gL (ts:=ts) (j:=j) (x:=x) (by simpa using h); simp only [nY]; omega
theorem bA:∀ {ts:List T} {j:Nat} {x:T},bU ts=true→ts[j]?=some x→plainT x=true
 | [],_,_,_,h=>by simp at h
 | t :: ts,0,x,p,h=>by simp at h; subst h; simp only [bU,iC] at p; exact p.1
 | t :: ts,j+1,x,p,h=>by simp only [bU,iC] at p; exact bA (ts:=ts) (j:=j) p.2 (by simpa using h)
theorem in1_units (A:Around):A.in1.units=A.units+1:=by
 first | rfl | simp [Around.in1,Around.units]
theorem gi (I:Inv X pins σ H s) {ts us:List T} {vs ws:List V} {aK ej:List Value} {A:Around} (h1:aG X.K H O ts vs) (h2:aG X.K H O' us ws) (r1:Vals vs aK) (r2:Vals ws ej)
  (key:∀ (j:Nat) x y v w u u',ts[j]?=some x→us[j]?=some y→At X.K H O x v→At X.K H O' y w→RelV v u→RelV w u'→SeqAt.EqAt A s u u' (eqT x y)) :
  ∀ (j:Nat) (g1:j < aK.toArray.size) (g2:j < ej.toArray.size),SeqAt.EqAt A s aK.toArray[j] ej.toArray[j] (match ts[j]?,us[j]? with
   | some x,some y=>eqT x y
   | _,_=>true):=fun j g1 g2=>by
 have l1:=h1.length
 have l2:=h2.length
 have m1:=r1.length
 have m2:=r2.length
 simp only [gB] at g1 g2
 have e1:ts[j]?=some (ts[j]'(by omega)):=by simp
 have e2:us[j]?=some (us[j]'(by omega)):=by simp
 obtain ⟨v,a1,a2⟩:=h1.get e1
 obtain ⟨w,b1,b2⟩:=h2.get e2
 obtain ⟨u,c1,c2⟩:=r1.get a1
 obtain ⟨u',d1,d2⟩:=r2.get b1
 have f1:aK.toArray[j]=u:=by rw [j_ (by omega)] at c1; simpa using c1
 have f2:ej.toArray[j]=u':=by rw [j_ (by omega)] at d1; simpa using d1
 rw [f1,f2,e1,e2]
 exact key j _ _ v w u u' e1 e2 a2 b2 c2 d2
theorem jQ {O:List Addr} (I:Inv X pins σ H s) {u:T} {w:V} {b:Value} (pu:plainT u=true) (hw:At X.K H O u w) (r:RelV w b):(u = .bh∧b = .none)∨(∃ c,u = .bl c∧b = .bool c)∨(∃ c t,u = .int c∧b = .int c t)∨(∃ c t,u = .str c∧b = .str c t)∨(∃ l p xs,u = .tup l∧b = .ref p∧s.heap.IsTuple p xs)∨∃ l p xs,u = .lst l∧b = .ref p∧s.heap.IsList p xs:=by
 cases u with
 | tup l=>simp only [At] at hw; obtain ⟨p,ws,rfl,q,_⟩:=hw; cases r; obtain ⟨_,_,p1,_⟩:=I.tuple q; exact .inr (.inr (.inr (.inr (.inl ⟨l,p,_,rfl,rfl,p1⟩))))
 | lst l=>simp only [At] at hw; obtain ⟨p,ws,rfl,q,_⟩:=hw; cases r; obtain ⟨_,_,p1,_⟩:=I.list q.sq; exact .inr (.inr (.inr (.inr (.inr ⟨l,p,_,rfl,rfl,p1.isList⟩))))
 | bh=>simp only [At] at hw; subst hw; cases r; exact .inl ⟨rfl,rfl⟩
 | bl c=>simp only [At] at hw; subst hw; cases r; exact .inr (.inl ⟨c,rfl,rfl⟩)
 | int c=>simp only [At] at hw; subst hw; obtain ⟨t,rfl⟩:=r; exact .inr (.inr (.inl ⟨c,t,rfl,rfl⟩))
 | str c=>simp only [At] at hw; subst hw; obtain ⟨t,rfl⟩:=r; exact .inr (.inr (.inr (.inl ⟨c,t,rfl,rfl⟩)))
 | _=>simp only [plainT] at pu; cases pu
theorem sh (I:Inv X pins σ H s):∀ (n:Nat) (t u:T) (v w:V) (a b:Value) (A:Around),dep t≤n→A.units+n < cLine→plainT t=true→plainT u=true→At X.K H O t v→At X.K H O' u w→RelV v a→RelV w b→SeqAt.EqAt A s a b (eqT t u):=by
 intro n
 induction n with
 | zero =>
   intro t u v w a b A hd hu pt pu ht hw rv rw'
   have cz:A.units < cLine:=by omega
   rcases jQ I pt ht rv with ⟨rfl,rfl⟩ | ⟨d,rfl,rfl⟩ | ⟨d,t',rfl,rfl⟩ | ⟨d,t',rfl,rfl⟩ | ⟨l,p,xs,rfl,_⟩ | ⟨l,p,xs,rfl,_⟩
   · rcases jQ I pu hw rw' with ⟨rfl,rfl⟩ | ⟨c,rfl,rfl⟩ | ⟨c,t,rfl,rfl⟩ | ⟨c,t,rfl,rfl⟩ | ⟨l,p,xs,rfl,rfl,h⟩ | ⟨l,p,xs,rfl,rfl,h⟩ <;> simp only [eqT]
     · exact SeqAt.EqAt.same _
     · exact SeqAt.EqAt.none_bool c
     · exact SeqAt.EqAt.none_int c t
     · exact SeqAt.EqAt.none_str c t
     · exact SeqAt.EqAt.none_tuple h cz
     · exact SeqAt.EqAt.none_list h cz
   · rcases jQ I pu hw rw' with ⟨rfl,rfl⟩ | ⟨c,rfl,rfl⟩ | ⟨c,t,rfl,rfl⟩ | ⟨c,t,rfl,rfl⟩ | ⟨l,p,xs,rfl,rfl,h⟩ | ⟨l,p,xs,rfl,rfl,h⟩ <;> simp only [eqT]
     · exact SeqAt.EqAt.bool_none d
     · exact SeqAt.EqAt.bool_bool d c
     · exact SeqAt.EqAt.bool_int d c t
     · exact SeqAt.EqAt.bool_str d c t
     · exact SeqAt.EqAt.bool_tuple d h cz
     · exact SeqAt.EqAt.bool_list d h cz
   · rcases jQ I pu hw rw' with ⟨rfl,rfl⟩ | ⟨c,rfl,rfl⟩ | ⟨c,t,rfl,rfl⟩ | ⟨c,t,rfl,rfl⟩ | ⟨l,p,xs,rfl,rfl,h⟩ | ⟨l,p,xs,rfl,rfl,h⟩ <;> simp only [eqT]
     · exact SeqAt.EqAt.int_none d t'
     · exact SeqAt.EqAt.int_bool d t' c
     · exact SeqAt.EqAt.int_int d t' c t
     · exact SeqAt.EqAt.int_str d t' c t
     · exact SeqAt.EqAt.int_tuple d t' h cz
     · exact SeqAt.EqAt.int_list d t' h cz
   · rcases jQ I pu hw rw' with ⟨rfl,rfl⟩ | ⟨c,rfl,rfl⟩ | ⟨c,t,rfl,rfl⟩ | ⟨c,t,rfl,rfl⟩ | ⟨l,p,xs,rfl,rfl,h⟩ | ⟨l,p,xs,rfl,rfl,h⟩ <;> simp only [eqT]
     · exact SeqAt.EqAt.str_none d t'
     · exact SeqAt.EqAt.str_bool d t' c
     · exact SeqAt.EqAt.str_int d t' c t
     · exact SeqAt.EqAt.str_str d t' c t
     · exact SeqAt.EqAt.str_tuple d t' h cz
     · exact SeqAt.EqAt.str_list d t' h cz
   · simp only [dep] at hd; omega
   · simp only [dep] at hd; omega
 | succ n ih =>
   intro t u v w a b A hd hu pt pu ht hw rv rw'
   by_cases h0:dep t≤n
   · exact ih t u v w a b A h0 (by omega) pt pu ht hw rv rw'
   · have cz:A.units < cLine:=by omega
     have vL:A.in1.units+n < cLine:=by rw [in1_units]; omega
     cases t with
     | tup l =>
       simp only [plainT] at pt
       simp only [dep] at hd
       have SU:=ht
       simp only [At] at ht
       obtain ⟨p,vs,rfl,h1,h2⟩:=ht
       cases rv
       obtain ⟨aK,r1,p1,_⟩:=I.tuple h1
       cases u with
       | tup l' =>
         have SV:=hw
         simp only [At] at hw
         obtain ⟨p',ws,rfl,g1,g2⟩:=hw
         cases rw'
         simp only [plainT] at pu
         by_cases e:p=p'
         · subst e
           have:=At.inj I (t:=.tup l) (u:=.tup l') (by simp only [plainT]; exact pt) (by simp only [plainT]; exact pu) SU SV
           rw [← this,ku _ (by simp only [plainT]; exact pt)]
           exact SeqAt.EqAt.same _
         · obtain ⟨ej,r2,p2,_⟩:=I.tuple g1
           refine SeqAt.EqAt.of_refs e ?_
           have:=SeqAt.RcAt.tuples (A:=A) p1 p2 cz (gi I h2 g2 r1 r2 fun j x y v w u u' e1 e2 a1 a2 b1 b2=>ih x y v w u u' A.in1 (mD (gL e1) (by omega)) vL (bA pt e1) (bA pu e2) a1 a2 b1 b2)
           simp only [eqT]
           rw [nZ]
           have e1:=r1.length
           have e2:=r2.length
           have e3:=h2.length
           have e4:=g2.length
           simp only [gB] at this
           rw [← e1,← e2,e3,e4] at this
           exact this
       | _ =>
         rcases jQ I pu hw rw' with ⟨e,rfl⟩ | ⟨c,e,rfl⟩ | ⟨c,t,e,rfl⟩ | ⟨c,t,e,rfl⟩ | ⟨l,p,xs,e,rfl,h⟩ | ⟨l,p,xs,e,rfl,h⟩ <;> cases e <;> simp only [eqT]
         all_goals first | exact SeqAt.EqAt.tuple_none p1 cz | exact SeqAt.EqAt.tuple_bool _ p1 cz | exact SeqAt.EqAt.tuple_int _ _ p1 cz | exact SeqAt.EqAt.tuple_str _ _ p1 cz | exact SeqAt.EqAt.tuple_list p1 (by assumption) cz
     | lst l =>
       simp only [plainT] at pt
       simp only [dep] at hd
       have SU:=ht
       simp only [At] at ht
       obtain ⟨p,vs,rfl,h1,h2⟩:=ht
       cases rv
       obtain ⟨aK,r1,p1,_⟩:=I.list h1.sq
       cases u with
       | lst l' =>
         have SV:=hw
         simp only [At] at hw
         obtain ⟨p',ws,rfl,g1,g2⟩:=hw
         cases rw'
         simp only [plainT] at pu
         by_cases e:p=p'
         · subst e
           have:=At.inj I (t:=.lst l) (u:=.lst l') (by simp only [plainT]; exact pt) (by simp only [plainT]; exact pu) SU SV
           rw [← this,ku _ (by simp only [plainT]; exact pt)]
           exact SeqAt.EqAt.same _
         · obtain ⟨ej,r2,p2,_⟩:=I.list g1.sq
           refine SeqAt.EqAt.of_refs e ?_
           have e1:=r1.length
           have e2:=r2.length
           have e3:=h2.length
           have e4:=g2.length
           by_cases hl:l.length=l'.length
           · have:=SeqAt.RcAt.lists (A:=A) p1.isList p2.isList (by simp only [gB]; omega) cz (gi I h2 g2 r1 r2 fun j x y v w u u' e1 e2 a1 a2 b1 b2=>ih x y v w u u' A.in1 (mD (gL e1) (by omega)) vL (bA pt e1) (bA pu e2) a1 a2 b1 b2)
             simp only [eqT]
             rw [iO hl]
             simp only [gB] at this
             rw [← e1,e3] at this
             exact this
           · simp only [eqT]
             have:eQ l l'=false:=by
              cases q:eQ l l' with
              | false=>rfl
              | true=>exact absurd (iN q) hl
             rw [this]
             exact SeqAt.RcAt.lists_lengths p1.isList p2.isList (by simp only [gB]; rw [bne_iff_ne]; omega) cz
       | _ =>
         rcases jQ I pu hw rw' with ⟨e,rfl⟩ | ⟨c,e,rfl⟩ | ⟨c,t,e,rfl⟩ | ⟨c,t,e,rfl⟩ | ⟨l,p,xs,e,rfl,h⟩ | ⟨l,p,xs,e,rfl,h⟩ <;> cases e <;> simp only [eqT]
         all_goals first | exact SeqAt.EqAt.list_none p1.isList cz | exact SeqAt.EqAt.list_bool _ p1.isList cz | exact SeqAt.EqAt.list_int _ _ p1.isList cz | exact SeqAt.EqAt.list_str _ _ p1.isList cz | exact SeqAt.EqAt.list_tuple p1.isList (by assumption) cz
     | _=>exact absurd (kd n) h0
end
section
variable {X:Cx} {pins:List (Addr×Obj)} {σ:St} {H:Hp} {s:Shared} {O O':List Addr}
theorem Kd (I:Inv X pins σ H s) (t u:T) (v w:V) (a b:Value) (A:Around) (hd:dep t≤100) (hu:A.units+101 < cLine) (pt:plainT t=true) (pu:plainT u=true) (ht:At X.K H O t v) (hw:At X.K H O' u w) (rv:RelV v a) (rw':RelV w b):SeqAt.RcAt A s a b (eqT t u):=by
 have cz:A.units < cLine:=by omega
 have vL:A.in1.units+100 < cLine:=by rw [in1_units]; omega
 cases t with
 | bh =>
   simp only [At] at ht; subst ht; cases rv
   cases u with
   | bh =>
     simp only [At] at hw; subst hw; cases rw'
     simp only [eqT]
     exact SeqAt.RcAt.none_none
   | bl c =>
     simp only [At] at hw; subst hw; cases rw'
     simp only [eqT]
     exact SeqAt.RcAt.none_bool c
   | int c =>
     simp only [At] at hw; subst hw; obtain ⟨t2,rfl⟩:=rw'
     simp only [eqT]
     exact SeqAt.RcAt.none_int c t2
   | str c =>
     simp only [At] at hw; subst hw; obtain ⟨t2,rfl⟩:=rw'
     simp only [eqT]
     exact SeqAt.RcAt.none_str c t2
   | tup l=>simp only [At] at hw; obtain ⟨p,ws,rfl,q,_⟩:=hw; cases rw'; obtain ⟨_,_,p1,_⟩:=I.tuple q; simp only [eqT]; exact SeqAt.RcAt.none_tuple p1 cz
   | lst l=>simp only [At] at hw; obtain ⟨p,ws,rfl,q,_⟩:=hw; cases rw'; obtain ⟨_,_,p1,_⟩:=I.list q.sq; simp only [eqT]; exact SeqAt.RcAt.none_list p1.isList cz
   | _=>simp only [plainT] at pu; cases pu
 | bl d =>
   simp only [At] at ht; subst ht; cases rv
   cases u with
   | bh =>
     simp only [At] at hw; subst hw; cases rw'
     simp only [eqT]
     exact SeqAt.RcAt.bool_none d
   | bl c =>
     simp only [At] at hw; subst hw; cases rw'
     simp only [eqT]
     exact SeqAt.RcAt.bool_bool d c
   | int c =>
     simp only [At] at hw; subst hw; obtain ⟨t2,rfl⟩:=rw'
     simp only [eqT]
     exact SeqAt.RcAt.bool_int d c t2
   | str c =>
     simp only [At] at hw; subst hw; obtain ⟨t2,rfl⟩:=rw'
     simp only [eqT]
     exact SeqAt.RcAt.bool_str d c t2
   | tup l=>simp only [At] at hw; obtain ⟨p,ws,rfl,q,_⟩:=hw; cases rw'; obtain ⟨_,_,p1,_⟩:=I.tuple q; simp only [eqT]; exact SeqAt.RcAt.bool_tuple d p1 cz
   | lst l=>simp only [At] at hw; obtain ⟨p,ws,rfl,q,_⟩:=hw; cases rw'; obtain ⟨_,_,p1,_⟩:=I.list q.sq; simp only [eqT]; exact SeqAt.RcAt.bool_list d p1.isList cz
   | _=>simp only [plainT] at pu; cases pu
 | int d =>
   simp only [At] at ht; subst ht; obtain ⟨t1,rfl⟩:=rv
   cases u with
   | bh =>
     simp only [At] at hw; subst hw; cases rw'
     simp only [eqT]
     exact SeqAt.RcAt.int_none d t1
   | bl c =>
     simp only [At] at hw; subst hw; cases rw'
     simp only [eqT]
     exact SeqAt.RcAt.int_bool d t1 c
   | int c =>
     simp only [At] at hw; subst hw; obtain ⟨t2,rfl⟩:=rw'
     simp only [eqT]
     exact SeqAt.RcAt.int_int d t1 c t2
   | str c =>
     simp only [At] at hw; subst hw; obtain ⟨t2,rfl⟩:=rw'
     simp only [eqT]
     exact SeqAt.RcAt.int_str d t1 c t2
   | tup l=>simp only [At] at hw; obtain ⟨p,ws,rfl,q,_⟩:=hw; cases rw'; obtain ⟨_,_,p1,_⟩:=I.tuple q; simp only [eqT]; exact SeqAt.RcAt.int_tuple d t1 p1 cz
   | lst l=>simp only [At] at hw; obtain ⟨p,ws,rfl,q,_⟩:=hw; cases rw'; obtain ⟨_,_,p1,_⟩:=I.list q.sq; simp only [eqT]; exact SeqAt.RcAt.int_list d t1 p1.isList cz
   | _=>simp only [plainT] at pu; cases pu
 | str d =>
   simp only [At] at ht; subst ht; obtain ⟨t1,rfl⟩:=rv
   cases u with
   | bh =>
     simp only [At] at hw; subst hw; cases rw'
     simp only [eqT]
     exact SeqAt.RcAt.str_none d t1
   | bl c =>
     simp only [At] at hw; subst hw; cases rw'
     simp only [eqT]
     exact SeqAt.RcAt.str_bool d t1 c
   | int c =>
     simp only [At] at hw; subst hw; obtain ⟨t2,rfl⟩:=rw'
     simp only [eqT]
     exact SeqAt.RcAt.str_int d t1 c t2
   | str c =>
     simp only [At] at hw; subst hw; obtain ⟨t2,rfl⟩:=rw'
     simp only [eqT]
     exact SeqAt.RcAt.str_str d t1 c t2
   | tup l=>simp only [At] at hw; obtain ⟨p,ws,rfl,q,_⟩:=hw; cases rw'; obtain ⟨_,_,p1,_⟩:=I.tuple q; simp only [eqT]; exact SeqAt.RcAt.str_tuple d t1 p1 cz
   | lst l=>simp only [At] at hw; obtain ⟨p,ws,rfl,q,_⟩:=hw; cases rw'; obtain ⟨_,_,p1,_⟩:=I.list q.sq; simp only [eqT]; exact SeqAt.RcAt.str_list d t1 p1.isList cz
   | _=>simp only [plainT] at pu; cases pu
 | tup l =>
   simp only [plainT] at pt
   simp only [dep] at hd
   simp only [At] at ht
   obtain ⟨p,vs,rfl,h1,h2⟩:=ht
   cases rv
   obtain ⟨aK,r1,p1,_⟩:=I.tuple h1
   cases u with
   | bh =>
     simp only [At] at hw; subst hw; cases rw'
     simp only [eqT]
     exact SeqAt.RcAt.tuple_none p1 cz
   | bl c =>
     simp only [At] at hw; subst hw; cases rw'
     simp only [eqT]
     exact SeqAt.RcAt.tuple_bool c p1 cz
   | int c =>
     simp only [At] at hw; subst hw; obtain ⟨t2,rfl⟩:=rw'
     simp only [eqT]
     exact SeqAt.RcAt.tuple_int c t2 p1 cz
   | str c =>
     simp only [At] at hw; subst hw; obtain ⟨t2,rfl⟩:=rw'
     simp only [eqT]
     exact SeqAt.RcAt.tuple_str c t2 p1 cz
   | tup l' =>
     simp only [At] at hw
     obtain ⟨p',ws,rfl,g1,g2⟩:=hw
     cases rw'
     obtain ⟨ej,r2,p2,_⟩:=I.tuple g1
     simp only [eqT]
     simp only [plainT] at pu
     have e1:=r1.length
     have e2:=r2.length
     have e3:=h2.length
     have e4:=g2.length
     have:=SeqAt.RcAt.tuples (A:=A) p1 p2 cz (gi I h2 g2 r1 r2 fun j x y v w u u' e1 e2 a1 a2 b1 b2=>sh I 100 x y v w u u' A.in1 (mD (gL e1) (by omega)) vL (bA pt e1) (bA pu e2) a1 a2 b1 b2)
     simp only [gB] at this
     rw [← e1,← e2,e3,e4] at this
     rw [nZ]
     exact this
   | lst l' =>
     simp only [At] at hw
     obtain ⟨p',ws,rfl,g1,g2⟩:=hw
     cases rw'
     obtain ⟨ej,r2,p2,_⟩:=I.list g1.sq
     simp only [eqT]
     exact SeqAt.RcAt.tuple_list p1 p2.isList cz
   | _=>simp only [plainT] at pu; cases pu
 | lst l =>
   simp only [plainT] at pt
   simp only [dep] at hd
   simp only [At] at ht
   obtain ⟨p,vs,rfl,h1,h2⟩:=ht
   cases rv
   obtain ⟨aK,r1,p1,_⟩:=I.list h1.sq
   cases u with
   | bh =>
     simp only [At] at hw; subst hw; cases rw'
     simp only [eqT]
     exact SeqAt.RcAt.list_none p1.isList cz
   | bl c =>
     simp only [At] at hw; subst hw; cases rw'
     simp only [eqT]
     exact SeqAt.RcAt.list_bool c p1.isList cz
   | int c =>
     simp only [At] at hw; subst hw; obtain ⟨t2,rfl⟩:=rw'
     simp only [eqT]
     exact SeqAt.RcAt.list_int c t2 p1.isList cz
   | str c =>
     simp only [At] at hw; subst hw; obtain ⟨t2,rfl⟩:=rw'
     simp only [eqT]
     exact SeqAt.RcAt.list_str c t2 p1.isList cz
   | tup l' =>
     simp only [At] at hw
     obtain ⟨p',ws,rfl,g1,g2⟩:=hw
     cases rw'
     obtain ⟨ej,r2,p2,_⟩:=I.tuple g1
     simp only [eqT]
     exact SeqAt.RcAt.list_tuple p1.isList p2 cz
   | lst l' =>
     simp only [At] at hw
     obtain ⟨p',ws,rfl,g1,g2⟩:=hw
     cases rw'
     obtain ⟨ej,r2,p2,_⟩:=I.list g1.sq
     simp only [eqT]
     simp only [plainT] at pu
     have e1:=r1.length
     have e2:=r2.length
     have e3:=h2.length
     have e4:=g2.length
     by_cases hl:l.length=l'.length
     · have:=SeqAt.RcAt.lists (A:=A) p1.isList p2.isList (by simp only [gB]; omega) cz (gi I h2 g2 r1 r2 fun j x y v w u u' e1 e2 a1 a2 b1 b2=>sh I 100 x y v w u u' A.in1 (mD (gL e1) (by omega)) vL (bA pt e1) (bA pu e2) a1 a2 b1 b2)
       simp only [gB] at this
       rw [← e1,e3] at this
       rw [iO hl]
       exact this
     · have:eQ l l'=false:=by
        cases q:eQ l l' with
        | false=>rfl
        | true=>exact absurd (iN q) hl
       rw [this]
       exact SeqAt.RcAt.lists_lengths p1.isList p2.isList (by simp only [gB]; rw [bne_iff_ne]; omega) cz
   | _=>simp only [plainT] at pu; cases pu
 | _=>simp only [plainT] at pt; cases pt
theorem Ke (I:Inv X pins σ H s) (t u:T) (v w:V) (a b:Value) (A:Around) (hd:dep t≤100) (hu:A.units+101 < cLine) (pt:plainT t=true) (pu:plainT u=true) (ht:At X.K H O t v) (hw:At X.K H O' u w) (rv:RelV v a) (rw':RelV w b):SeqAt.RcNeAt A s a b (!eqT t u):=by
 have cz:A.units < cLine:=by omega
 have vL:A.in1.units+100 < cLine:=by rw [in1_units]; omega
 cases t with
 | bh =>
   simp only [At] at ht; subst ht; cases rv
   cases u with
   | bh =>
     simp only [At] at hw; subst hw; cases rw'
     simp only [eqT]
     exact SeqAt.RcNeAt.none_none
   | bl c =>
     simp only [At] at hw; subst hw; cases rw'
     simp only [eqT]
     exact SeqAt.RcNeAt.none_bool c
   | int c =>
     simp only [At] at hw; subst hw; obtain ⟨t2,rfl⟩:=rw'
     simp only [eqT]
     exact SeqAt.RcNeAt.none_int c t2
   | str c =>
     simp only [At] at hw; subst hw; obtain ⟨t2,rfl⟩:=rw'
     simp only [eqT]
     exact SeqAt.RcNeAt.none_str c t2
   | tup l=>simp only [At] at hw; obtain ⟨p,ws,rfl,q,_⟩:=hw; cases rw'; obtain ⟨_,_,p1,_⟩:=I.tuple q; simp only [eqT]; exact SeqAt.RcNeAt.none_tuple p1 cz
   | lst l=>simp only [At] at hw; obtain ⟨p,ws,rfl,q,_⟩:=hw; cases rw'; obtain ⟨_,_,p1,_⟩:=I.list q.sq; simp only [eqT]; exact SeqAt.RcNeAt.none_list p1.isList cz
   | _=>simp only [plainT] at pu; cases pu
 | bl d =>
   simp only [At] at ht; subst ht; cases rv
   cases u with
   | bh =>
     simp only [At] at hw; subst hw; cases rw'
     simp only [eqT]
     exact SeqAt.RcNeAt.bool_none d
   | bl c =>
     simp only [At] at hw; subst hw; cases rw'
     simp only [eqT]
     exact SeqAt.RcNeAt.bool_bool d c
   | int c =>
     simp only [At] at hw; subst hw; obtain ⟨t2,rfl⟩:=rw'
     simp only [eqT]
     exact SeqAt.RcNeAt.bool_int d c t2
   | str c =>
     simp only [At] at hw; subst hw; obtain ⟨t2,rfl⟩:=rw'
     simp only [eqT]
     exact SeqAt.RcNeAt.bool_str d c t2
   | tup l=>simp only [At] at hw; obtain ⟨p,ws,rfl,q,_⟩:=hw; cases rw'; obtain ⟨_,_,p1,_⟩:=I.tuple q; simp only [eqT]; exact SeqAt.RcNeAt.bool_tuple d p1 cz
   | lst l=>simp only [At] at hw; obtain ⟨p,ws,rfl,q,_⟩:=hw; cases rw'; obtain ⟨_,_,p1,_⟩:=I.list q.sq; simp only [eqT]; exact SeqAt.RcNeAt.bool_list d p1.isList cz
   | _=>simp only [plainT] at pu; cases pu
 | int d =>
   simp only [At] at ht; subst ht; obtain ⟨t1,rfl⟩:=rv
   cases u with
   | bh =>
     simp only [At] at hw; subst hw; cases rw'
     simp only [eqT]
     exact SeqAt.RcNeAt.int_none d t1
   | bl c =>
     simp only [At] at hw; subst hw; cases rw'
     simp only [eqT]
     exact SeqAt.RcNeAt.int_bool d t1 c
   | int c =>
     simp only [At] at hw; subst hw; obtain ⟨t2,rfl⟩:=rw'
     simp only [eqT]
     exact SeqAt.RcNeAt.int_int d t1 c t2
   | str c =>
     simp only [At] at hw; subst hw; obtain ⟨t2,rfl⟩:=rw'
     simp only [eqT]
     exact SeqAt.RcNeAt.int_str d t1 c t2
   | tup l=>simp only [At] at hw; obtain ⟨p,ws,rfl,q,_⟩:=hw; cases rw'; obtain ⟨_,_,p1,_⟩:=I.tuple q; simp only [eqT]; exact SeqAt.RcNeAt.int_tuple d t1 p1 cz
   | lst l=>simp only [At] at hw; obtain ⟨p,ws,rfl,q,_⟩:=hw; cases rw'; obtain ⟨_,_,p1,_⟩:=I.list q.sq; simp only [eqT]; exact SeqAt.RcNeAt.int_list d t1 p1.isList cz
   | _=>simp only [plainT] at pu; cases pu
 | str d =>
   simp only [At] at ht; subst ht; obtain ⟨t1,rfl⟩:=rv
   cases u with
   | bh =>
     simp only [At] at hw; subst hw; cases rw'
     simp only [eqT]
     exact SeqAt.RcNeAt.str_none d t1
   | bl c =>
     simp only [At] at hw; subst hw; cases rw'
     simp only [eqT]
     exact SeqAt.RcNeAt.str_bool d t1 c
   | int c =>
     simp only [At] at hw; subst hw; obtain ⟨t2,rfl⟩:=rw'
     simp only [eqT]
     exact SeqAt.RcNeAt.str_int d t1 c t2
   | str c =>
     simp only [At] at hw; subst hw; obtain ⟨t2,rfl⟩:=rw'
     simp only [eqT]
     exact SeqAt.RcNeAt.str_str d t1 c t2
   | tup l=>simp only [At] at hw; obtain ⟨p,ws,rfl,q,_⟩:=hw; cases rw'; obtain ⟨_,_,p1,_⟩:=I.tuple q; simp only [eqT]; exact SeqAt.RcNeAt.str_tuple d t1 p1 cz
   | lst l=>simp only [At] at hw; obtain ⟨p,ws,rfl,q,_⟩:=hw; cases rw'; obtain ⟨_,_,p1,_⟩:=I.list q.sq; simp only [eqT]; exact SeqAt.RcNeAt.str_list d t1 p1.isList cz
   | _=>simp only [plainT] at pu; cases pu
 | tup l =>
   simp only [plainT] at pt
   simp only [dep] at hd
   simp only [At] at ht
   obtain ⟨p,vs,rfl,h1,h2⟩:=ht
   cases rv
   obtain ⟨aK,r1,p1,_⟩:=I.tuple h1
   cases u with
   | bh =>
     simp only [At] at hw; subst hw; cases rw'
     simp only [eqT]
     exact SeqAt.RcNeAt.tuple_none p1 cz
   | bl c =>
     simp only [At] at hw; subst hw; cases rw'
     simp only [eqT]
     exact SeqAt.RcNeAt.tuple_bool c p1 cz
   | int c =>
     simp only [At] at hw; subst hw; obtain ⟨t2,rfl⟩:=rw'
     simp only [eqT]
     exact SeqAt.RcNeAt.tuple_int c t2 p1 cz
   | str c =>
     simp only [At] at hw; subst hw; obtain ⟨t2,rfl⟩:=rw'
     simp only [eqT]
     exact SeqAt.RcNeAt.tuple_str c t2 p1 cz
   | tup l' =>
     simp only [At] at hw
     obtain ⟨p',ws,rfl,g1,g2⟩:=hw
     cases rw'
     obtain ⟨ej,r2,p2,_⟩:=I.tuple g1
     simp only [eqT]
     simp only [plainT] at pu
     have e1:=r1.length
     have e2:=r2.length
     have e3:=h2.length
     have e4:=g2.length
     have:=SeqAt.RcNeAt.tuples (A:=A) p1 p2 cz (gi I h2 g2 r1 r2 fun j x y v w u u' e1 e2 a1 a2 b1 b2=>sh I 100 x y v w u u' A.in1 (mD (gL e1) (by omega)) vL (bA pt e1) (bA pu e2) a1 a2 b1 b2)
     simp only [gB] at this
     rw [← e1,← e2,e3,e4] at this
     rw [nZ]
     exact this
   | lst l' =>
     simp only [At] at hw
     obtain ⟨p',ws,rfl,g1,g2⟩:=hw
     cases rw'
     obtain ⟨ej,r2,p2,_⟩:=I.list g1.sq
     simp only [eqT]
     exact SeqAt.RcNeAt.tuple_list p1 p2.isList cz
   | _=>simp only [plainT] at pu; cases pu
 | lst l =>
   simp only [plainT] at pt
   simp only [dep] at hd
   simp only [At] at ht
   obtain ⟨p,vs,rfl,h1,h2⟩:=ht
   cases rv
   obtain ⟨aK,r1,p1,_⟩:=I.list h1.sq
   cases u with
   | bh =>
     simp only [At] at hw; subst hw; cases rw'
     simp only [eqT]
     exact SeqAt.RcNeAt.list_none p1.isList cz
   | bl c =>
     simp only [At] at hw; subst hw; cases rw'
     simp only [eqT]
     exact SeqAt.RcNeAt.list_bool c p1.isList cz
   | int c =>
     simp only [At] at hw; subst hw; obtain ⟨t2,rfl⟩:=rw'
     simp only [eqT]
     exact SeqAt.RcNeAt.list_int c t2 p1.isList cz
   | str c =>
     simp only [At] at hw; subst hw; obtain ⟨t2,rfl⟩:=rw'
     simp only [eqT]
     exact SeqAt.RcNeAt.list_str c t2 p1.isList cz
   | tup l' =>
     simp only [At] at hw
     obtain ⟨p',ws,rfl,g1,g2⟩:=hw
     cases rw'
     obtain ⟨ej,r2,p2,_⟩:=I.tuple g1
     simp only [eqT]
     exact SeqAt.RcNeAt.list_tuple p1.isList p2 cz
   | lst l' =>
     simp only [At] at hw
     obtain ⟨p',ws,rfl,g1,g2⟩:=hw
     cases rw'
     obtain ⟨ej,r2,p2,_⟩:=I.list g1.sq
     simp only [eqT]
     simp only [plainT] at pu
     have e1:=r1.length
     have e2:=r2.length
     have e3:=h2.length
     have e4:=g2.length
     by_cases hl:l.length=l'.length
     · have:=SeqAt.RcNeAt.lists (A:=A) p1.isList p2.isList (by simp only [gB]; omega) cz (gi I h2 g2 r1 r2 fun j x y v w u u' e1 e2 a1 a2 b1 b2=>sh I 100 x y v w u u' A.in1 (mD (gL e1) (by omega)) vL (bA pt e1) (bA pu e2) a1 a2 b1 b2)
       simp only [gB] at this
       rw [← e1,e3] at this
       rw [iO hl]
       exact this
     · have:eQ l l'=false:=by
        cases q:eQ l l' with
        | false=>rfl
        | true=>exact absurd (iN q) hl
       rw [this]
       exact SeqAt.RcNeAt.lists_lengths p1.isList p2.isList (by simp only [gB]; rw [bne_iff_ne]; omega) cz
   | _=>simp only [plainT] at pu; cases pu
 | _=>simp only [plainT] at pt; cases pt
theorem gD.bare {K:PySem.W.Frag} {H:Hp} {A:List Addr} {t:T} {v:V} (h:gD K H A t v):At K H [] t v:=by
 rcases h with h | ⟨a,rfl,h⟩
 · exact At.bq (O':=[]) (fun _ z=>absurd z fD) h
 · exact (cq.bq (A':=[]) h (fun _ z=>absurd z fD)).at fD
def Fq (K:PySem.W.Frag) (neg:Bool):R2:=fun x y H Q=>∃ t u,At K H [] t x∧At K H [] u y∧plainT t=true∧plainT u=true∧dep t≤100∧Q (.bl (if neg then !eqT t u else eqT t u)) H
theorem BV (hu:X.A.units+101 < cLine):dY X (compareOp .Eq) (Fq X.K false):=by
 intro pins s σ H x y v u Q I rx ry ⟨t,t',h1,h2,p1,p2,d,q⟩
 exact Kd I t t' x y v u X.A d hu p1 p2 h1 h2 rx ry X.prog X.w X.xe _ ⟨.bl _,H,I,rfl,q⟩
theorem BW (hu:X.A.units+101 < cLine):dY X (compareOp .NotEq) (Fq X.K true):=by
 intro pins s σ H x y v u Q I rx ry ⟨t,t',h1,h2,p1,p2,d,q⟩
 exact Ke I t t' x y v u X.A d hu p1 p2 h1 h2 rx ry X.prog X.w X.xe _ ⟨.bl _,H,I,rfl,q⟩
end
def Oa (x y:T) (q:Rt→Prop):Prop:=match x,y with
 | .int i,.int j=>q (.vw (.bl (decide (i=j))))
 | .str i,.str j=>q (.vw (.bl (decide (i=j))))
 | .bl i,.bl j=>q (.vw (.bl (decide (i=j))))
 | x,y=>plainT x=true∧plainT y=true∧dep x≤100∧q (.vw (.bl (eqT x y)))
def Ob (x y:T) (q:Rt→Prop):Prop:=match x,y with
 | .int i,.int j=>q (.vw (.bl (!decide (i=j))))
 | .str i,.str j=>q (.vw (.bl (!decide (i=j))))
 | .bl i,.bl j=>q (.vw (.bl (!decide (i=j))))
 | x,y=>plainT x=true∧plainT y=true∧dep x≤100∧q (.vw (.bl (!eqT x y)))
theorem Fs {x y:T} {q:Rt→Prop} (h:Oa x y q):plainT x=true∧plainT y=true∧dep x≤100∧q (.vw (.bl (eqT x y))):=by
 unfold Oa at h
 split at h
 · exact ⟨rfl,rfl,kd _,by simp only [eqT,QE]; exact h⟩
 · refine ⟨rfl,rfl,kd _,?_⟩
   have e:∀ i j:Str,(i == j)=decide (i=j):=fun i j=>by rw [Hv]; simp
   simp only [eqT,e]; exact h
 · exact ⟨rfl,rfl,kd _,by simp only [eqT,QE]; exact h⟩
 · exact h
theorem Ft {x y:T} {q:Rt→Prop} (h:Ob x y q):plainT x=true∧plainT y=true∧dep x≤100∧q (.vw (.bl (!eqT x y))):=by
 unfold Ob at h
 split at h
 · exact ⟨rfl,rfl,kd _,by simp only [eqT,QE]; exact h⟩
 · refine ⟨rfl,rfl,kd _,?_⟩
   have e:∀ i j:Str,(i == j)=decide (i=j):=fun i j=>by rw [Hv]; simp
   simp only [eqT,e]; exact h
 · exact ⟨rfl,rfl,kd _,by simp only [eqT,QE]; exact h⟩
 · exact h
theorem BX {K:PySem.W.Frag}:nW K (Fq K false) Oa:=by
 intro Z tm O ρ σ H x y v w q Q I h1 h2 h k
 obtain ⟨p1,p2,d,h⟩:=Fs h
 exact ⟨x,y,h1.bare,h2.bare,p1,p2,d,k _ h _ H (aJ.refl H) ⟨I,by rw [if_neg nL]; exact cu⟩⟩
theorem BY {K:PySem.W.Frag}:nW K (Fq K true) Ob:=by
 intro Z tm O ρ σ H x y v w q Q I h1 h2 h k
 obtain ⟨p1,p2,d,h⟩:=Ft h
 exact ⟨x,y,h1.bare,h2.bare,p1,p2,d,k _ h _ H (aJ.refl H) ⟨I,by rw [if_pos rfl]; exact cu⟩⟩
def Kg (g:Int→Int→Bool) (x y:T) (q:Rt→Prop):Prop:=match x,y with
 | .int i,.int j=>q (.vw (.bl (g i j)))
 | _,_=>False
section
variable {K:PySem.W.Frag}
end
def Kh (x y:T) (q:Rt→Prop):Prop:=match x,y with
 | .int i,.int j=>q (.vw (.int (i - j)))
 | _,_=>False
theorem Fu {K:PySem.W.Frag}:nW K (rV fun i j=>.int (i - j)) Kh:=by
 intro Z tm O ρ σ H x y v w q Q I h1 h2 h k
 unfold Kh at h
 split at h
 · exact ⟨_,_,h1.int,h2.int,k _ h _ H (aJ.refl H) ⟨I,bE⟩⟩
 · exact h.elim
def Ki (x y:T) (q:Rt→Prop):Prop:=match x,y with
 | .int i,.int j=>By i j∧q (.vw (.int (i * j)))
 | _,_=>False
theorem Fv {K:PySem.W.Frag}:nW K (rI By fun i j=>.int (i * j)) Ki:=by
 intro Z tm O ρ σ H x y v w q Q I h1 h2 h k
 unfold Ki at h
 split at h
 · exact ⟨_,_,h1.int,h2.int,h.1,k _ h.2 _ H (aJ.refl H) ⟨I,bE⟩⟩
 · exact h.elim
def Kj (x y:T) (q:Rt→Prop):Prop:=match x,y with
 | .int i,.int j=>(0 < j∧j < 1073741824)∧q (.vw (.int (i / j)))
 | _,_=>False
theorem Fw {K:PySem.W.Frag}:nW K (rI Nz fun i j=>.int (i / j)) Kj:=by
 intro Z tm O ρ σ H x y v w q Q I h1 h2 h k
 unfold Kj at h
 split at h
 · exact ⟨_,_,h1.int,h2.int,h.1,k _ h.2 _ H (aJ.refl H) ⟨I,bE⟩⟩
 · exact h.elim
def Kk (x y:T) (q:Rt→Prop):Prop:=match x,y with
 | .int i,.int j=>0 < j∧q (.vw (.int (i % j)))
 | _,_=>False
theorem Fx {K:PySem.W.Frag}:nW K (rI (fun _ j=>0 < j) fun i j=>.int (i % j)) Kk:=by
 intro Z tm O ρ σ H x y v w q Q I h1 h2 h k
 unfold Kk at h
 split at h
 · exact ⟨_,_,h1.int,h2.int,h.1,k _ h.2 _ H (aJ.refl H) ⟨I,bE⟩⟩
 · exact h.elim
def Kl (x y:T) (q:Rt→Prop):Prop:=match x,y with
 | .int i,.int j=>(0≤j∧j≤1000000∧i.natAbs < 2 ^ 64)∧q (.vw (.int (i ^ j.toNat)))
 | _,_=>False
theorem Fy {K:PySem.W.Frag}:nW K (rI NA fun i j=>.int (i ^ j.toNat)) Kl:=by
 intro Z tm O ρ σ H x y v w q Q I h1 h2 h k
 unfold Kl at h
 split at h
 · exact ⟨_,_,h1.int,h2.int,h.1,k _ h.2 _ H (aJ.refl H) ⟨I,bE⟩⟩
 · exact h.elim
def SW (x y:T) (q:Rt→Prop):Prop:=match x,y with
 | .int i,.int j=>q (.vw (.bl (decide (i < j))))
 | _,_=>False
theorem Km {K:PySem.W.Frag}:nW K (rV fun i j=>.bl (decide (i < j))) SW:=by
 intro Z tm O ρ σ H x y v w q Q I h1 h2 h k
 unfold SW at h
 split at h
 · exact ⟨_,_,h1.int,h2.int,k _ h _ H (aJ.refl H) ⟨I,cu⟩⟩
 · exact h.elim
def SX (x y:T) (q:Rt→Prop):Prop:=match x,y with
 | .int i,.int j=>q (.vw (.bl (decide (j < i))))
 | _,_=>False
theorem Kn {K:PySem.W.Frag}:nW K (rV fun i j=>.bl (decide (j < i))) SX:=by
 intro Z tm O ρ σ H x y v w q Q I h1 h2 h k
 unfold SX at h
 split at h
 · exact ⟨_,_,h1.int,h2.int,k _ h _ H (aJ.refl H) ⟨I,cu⟩⟩
 · exact h.elim
def HM (x y:T) (q:Rt→Prop):Prop:=match x,y with
 | .int i,.int j=>q (.vw (.int (i+j)))
 | _,_=>False
theorem BZ {K:PySem.W.Frag}:nW K (rV fun i j=>.int (i+j)) HM:=by
 intro Z tm O ρ σ H x y v w q Q I h1 h2 h k
 unfold HM at h
 split at h
 · exact ⟨_,_,h1.int,h2.int,k _ h _ H (aJ.refl H) ⟨I,bE⟩⟩
 · exact h.elim
def HN (K:PySem.W.Frag):R2:=fun x y H Q=>∃ l b xs zs,x = .ref l∧y = .ref b∧eI K H l xs∧eI K H b zs∧xs.length+zs.length≤sizeLine∧∀ p,H p=none→Q (.ref p) (upd H p (.lst (xs ++ zs)))
def HP (K:PySem.W.Frag):R2:=fun x y H Q=>∃ a b xs ys,x = .ref a∧y = .ref b∧dw K H a xs∧dw K H b ys∧xs.length+ys.length≤sizeLine∧(xs=[]→Q (.ref b) H)∧(xs≠[]→ys=[]→Q (.ref a) H)∧(xs≠[]→ys≠[]→∀ p,H p=none→Q (.ref p) (upd H p (.tup (xs ++ ys))))
section
variable {X:Cx}
theorem Fz:dY X (binaryOp .Add) (HN X.K):=by
 intro pins s σ H x y v u Q I rx ry h
 obtain ⟨l,b,xs,zs,rfl,rfl,hH,hB,hz,q⟩:=h
 cases rx
 cases ry
 obtain ⟨aK,r,p1,z1⟩:=I.list hH
 obtain ⟨ej,r2,p2,z2⟩:=I.list hB
 obtain ⟨⟨cls,dd,data,sl⟩,n,ho,hc,_,hd⟩:=p1
 obtain ⟨⟨NI,Mx,data2,ye⟩,n2,Bc,Bd,_,hd2⟩:=p2
 simp only at hc hd Bd hd2
 subst hc hd Bd hd2
 have l1:=r.length
 have l2:=r2.length
 have e:aK.toArray ++ ej.toArray=(aK ++ ej).toArray:=by simp
 refine concat_meets ⟨_,ho,rfl⟩ ⟨_,Bc,rfl⟩ noFill_list_add seq_list_add PySem.F.slot_list_add PySem.F.entry_list_add (PySem.F.args_list_add_2 _ _) (list_addW l b aK.toArray ej.toArray n n2 dd Mx sl ye (by simp only [gB]; omega)) ⟨ho,Bc,?_⟩
 rw [e]
 exact ⟨.ref _,_,I.Sm (t':=s.toks) (r.append r2) (by rw [mf]; omega),rfl,q _ I.fresh⟩
theorem FC:dY X (binaryOp .Add) (HP X.K):=by
 intro pins s σ H x y v u Q I rx ry h
 obtain ⟨a,b,xs,ys,rfl,rfl,ha,hb,hz,q0,q1,q2⟩:=h
 cases rx
 cases ry
 obtain ⟨aK,r1,p1,_⟩:=I.tuple ha
 obtain ⟨ej,r2,p2,_⟩:=I.tuple hb
 by_cases hx:xs=[]
 · obtain ⟨⟨cls,dd,data,sl⟩,ho,hc,n,hd⟩:=id p1
   obtain ⟨⟨NI,Mx,data2,ye⟩,Bc,Bd,n2,hd2⟩:=id p2
   simp only at hc hd Bd hd2
   subst hc hd Bd hd2
   exact concat_meets ⟨_,ho,rfl⟩ ⟨_,Bc,rfl⟩ noFill_tuple_add seq_tuple_add RI RE (RD _ _)
    (tuple_addW0 a b aK.toArray ej.toArray n n2 dd Mx sl ye (by simp [r1.ny.mpr hx])) ⟨ho,Bc,⟨.ref b,H,I,rfl,q0 hx⟩⟩
 · refine HT.E7 p1 p2 (fun z=>hx (r1.ny.mp z)) (fun z=>⟨.ref a,H,I,rfl,q1 hx (r2.ny.mp z)⟩) (fun z=>?_) (by rw [← r1.length,← r2.length]; exact hz)
   refine ⟨.ref s.heap.objs.size,_,I.laid (t':=s.toks) (o:=.tup (xs ++ ys)) (fun b ob q=>cY _ q) (du _) ?_,rfl,q2 hx (fun w=>z (r2.ny.mpr w)) _ (I.bC.fresh (du _))⟩
   exact ⟨by rw [mf]; exact hz,_,r1.append r2,IsTup.new _ _⟩
end
def HQ (K:PySem.W.Frag):R2:=fun x y H Q=>rV (fun i j=>.int (i+j)) x y H Q∨(fun x y H Q=>∃ i j,x = .str i∧y = .str j∧i.length+j.length≤sizeLine∧Q (.str (i ++ j)) H) x y H Q∨HN K x y H Q∨HP K x y H Q
theorem FD {X:Cx}:dY X (binaryOp .Add) (HQ X.K):=dY.or Jz (dY.or vZ (dY.or Fz FC))
def Ko (x y:T) (q:Rt→Prop):Prop:=match x,y with
 | .int i,.int j=>q (.vw (.int (i+j)))
 | .str i,.str j=>i.length+j.length≤sizeLine∧q (.vw (.str (i ++ j)))
 | .lst a,.lst b=>a.length+b.length≤sizeLine∧q (.fr (.lst (a ++ b)))
 | .tup a,.tup b=>a.length+b.length≤sizeLine∧q (.vw (.tup (a ++ b)))
 | _,_=>False
theorem FH {K:PySem.W.Frag}:nW K (HQ K) Ko:=by
 intro Z tm O ρ σ H x y v w q Q I h1 h2 h k
 unfold Ko at h
 split at h
 · exact .inl ⟨_,_,h1.int,h2.int,k _ h _ H (aJ.refl H) ⟨I,bE⟩⟩
 · exact .inr (.inl ⟨_,_,h1.str,h2.str,h.1,k _ h.2 _ H (aJ.refl H) ⟨I,bZ⟩⟩)
 · obtain ⟨a,vs,rfl,s1,a1⟩:=h1.lst
   obtain ⟨b,ws,rfl,s2,a2⟩:=h2.lst
   exact .inr (.inr (.inl ⟨a,b,vs,ws,rfl,rfl,s1,s2,by rw [a1.length,a2.length]; exact h.1,fun p hp=>k _ h.2 _ _ (aS hp) (I.BQ hp (a1.append a2))⟩))
 · obtain ⟨a,vs,rfl,s1,a1⟩:=h1.tup
   obtain ⟨b,ws,rfl,s2,a2⟩:=h2.tup
   refine .inr (.inr (.inr ⟨a,b,vs,ws,rfl,rfl,s1,s2,by rw [a1.length,a2.length]; exact h.1,fun e=>?_,fun _ e=>?_,fun _ _ p hp=>?_⟩))
   · subst e
     have e:=a1.length
     rename_i xs ys
     have e':xs=[]:=RF.mp e.symm
     subst e'
     exact k _ h.2 _ H (aJ.refl H) ⟨I,bz s2 a2⟩
   · subst e
     have e:=a2.length
     rename_i xs ys _
     have e':ys=[]:=RF.mp e.symm
     subst e'
     exact k _ h.2 _ H (aJ.refl H) ⟨I,by rw [Eh]; exact bz s1 a1⟩
   · exact k _ h.2 _ _ (aS hp) ⟨I.same (aS hp),bz (dw.of aU) ((a1.append a2).same (aS hp))⟩
 · exact h.elim
section
variable {X:Cx} {Z:Zc} {e a b:Expr} {es:List Expr} {pos:Pos} {fa fb:FE}
theorem bt (ha:VR X Z a fa) (hb:VR X Z b fb):VP X Z (.BinOp a .Add b pos) (f2 fa fb Ko):=lq FD FH ha hb
theorem n5 (ha:VR X Z a fa) (hb:VR X Z b fb):VP X Z (.BinOp a .Sub b pos) (f2 fa fb Kh):=lq JA Fu ha hb
theorem fP (ha:VR X Z a fa) (hb:VR X Z b fb):VP X Z (.BinOp a .Mult b pos) (f2 fa fb Ki):=lq JB Fv ha hb
theorem bb (ha:VR X Z a fa) (hb:VR X Z b fb):VP X Z (.BinOp a .FloorDiv b pos) (f2 fa fb Kj):=lq EY Fw ha hb
theorem aT (ha:VR X Z a fa) (hb:VR X Z b fb):VP X Z (.BinOp a .Mod b pos) (f2 fa fb Kk):=lq JC Fx ha hb
theorem jR (ha:VR X Z a fa) (hb:VR X Z b fb):VP X Z (.BinOp a .Pow b pos) (f2 fa fb Kl):=lq JD Fy ha hb
def SY (f:FE):FP:=fun ρ Q=>f ρ fun x=>match x with
 | .int i=>Q (.vw (.int (-i)))
 | _=>False
theorem dZ (ha:VR X Z a fa):VP X Z (.UnaryOp .USub a pos) (SY fa):=.mk fun tm=>PE.weak (Ny JE (ha tm)) fun σ H Q ⟨ρ,O,q,I,hf,k⟩=>⟨ρ,O,_,I,hf,fun t ht v H1 s1 a1=>by
 split at ht
 · exact ⟨_,a1.int,k _ ht _ H1 s1 ⟨I.same s1,bE⟩⟩
 · exact ht.elim⟩
theorem ik (hu:X.A.units+101 < cLine) (ha:VR X Z a fa) (hb:VR X Z b fb):VP X Z (.Compare a [.Eq] [b] pos) (f2 fa fb Oa):=nX (BV hu) BX ha hb (iF _)
theorem yn (hu:X.A.units+101 < cLine) (ha:VR X Z a fa) (hb:VR X Z b fb):VP X Z (.Compare a [.NotEq] [b] pos) (f2 fa fb Ob):=nX (BW hu) BY ha hb (iF _)
theorem br (hu:X.A.units+101 < cLine) (ha:VR X Z a fa) (hb:VR X Z b fb):VC X Z (.Compare a [.Eq] [b] pos) (qm (f2 fa fb Oa)):=jO (BV hu) BX ha hb (iF _)
theorem kx (hu:X.A.units+101 < cLine) (ha:VR X Z a fa) (hb:VR X Z b fb):VC X Z (.Compare a [.NotEq] [b] pos) (qm (f2 fa fb Ob)):=jO (BW hu) BY ha hb (iF _)
theorem iP (ha:VR X Z a fa) (hb:VR X Z b fb):VC X Z (.Compare a [.Lt] [b] pos) (qm (f2 fa fb SW)):=jO yc Km ha hb (iF _)
theorem q9 (ha:VR X Z a fa) (hb:VR X Z b fb):VC X Z (.Compare a [.Gt] [b] pos) (qm (f2 fa fb SX)):=jO NB Kn ha hb (iF _)
def f3 (fa fb fc:FE) (p p':T→T→(Rt→Prop)→Prop):FP:=fun ρ Q=>fa ρ fun x=>fb ρ fun y=>p x y fun r=>match r with
 | .vw (.bl true)=>fc ρ fun z=>p' y z Q
 | .vw (.bl false)=>Q (.vw (.bl false))
 | _=>False
end
theorem B0 {K:PySem.W.Frag} {H:Hp} {A:List Addr} {ts:List T} {vs:List V} {i:Int} {t:T} (h:aG K H A ts vs) (e:ju ts i=some t):∃ v,ju vs i=some v∧At K H A t v:=by
 unfold ju at e ⊢
 rw [h.length]
 cases q:vK ts.length i with
 | none=>rw [q] at e; cases e
 | some j =>
   rw [q] at e
   obtain ⟨v,h1,h2⟩:=h.get (i:=j) e
   exact ⟨v,h1,h2⟩
def S0 (x y:T) (q:Rt→Prop):Prop:=match x,y with
 | .lst ts,.int i=>∃ t,ju ts i=some t∧q (.vw t)
 | .tup ts,.int i=>∃ t,ju ts i=some t∧q (.vw t)
 | .str z,.int i=>z.length≤sizeLine∧∃ c,ju z.cps.toList i=some c∧q (.vw (.str ⟨#[c]⟩))
 | _,_=>False
theorem Kq {K:PySem.W.Frag}:nW K (Vi K) S0:=by
 intro Z tm O ρ σ H x y v w q Q I h1 h2 h k
 unfold S0 at h
 split at h
 · obtain ⟨t,e,h⟩:=h
   obtain ⟨a,vs,rfl,s1,a1⟩:=h1.lst
   obtain ⟨u,e',a2⟩:=B0 a1 e
   exact .inl ⟨a,vs,_,u,rfl,h2.int,s1,e',k _ h _ H (aJ.refl H) ⟨I,a2⟩⟩
 · obtain ⟨t,e,h⟩:=h
   obtain ⟨a,vs,rfl,s1,a1⟩:=h1.tup
   obtain ⟨u,e',a2⟩:=B0 a1 e
   exact .inr (.inl ⟨a,vs,_,u,rfl,h2.int,s1,e',k _ h _ H (aJ.refl H) ⟨I,a2⟩⟩)
 · obtain ⟨hz,c,e,h⟩:=h
   exact .inr (.inr ⟨_,_,c,h1.str,h2.int,hz,e,k _ h _ H (aJ.refl H) ⟨I,bZ⟩⟩)
 · exact h.elim
section
variable {X:Cx} {Z:Zc} {e a b:Expr} {es:List Expr} {pos:Pos} {fa fb:FE}
theorem aQ (ha:VR X Z a fa) (hb:VR X Z b fb) (hs:yi b:=by exact fun _ _=>rfl):VP X Z (.Subscript a b pos) (f2 fa fb S0) :=
 .mk fun tm=>PE.weak (NM JQ (ha tm) (hb tm) hs) (two Kq)
end
abbrev FO:=En→(Option Int→Prop)→Prop
def lO (X:Cx) (Z:Zc) (tm:List (T×V)) (f:FO):TO:=fun σ H Q=>∃ ρ O q,az X.K Z tm O ρ σ H∧f ρ q∧∀ o,q o→∀ H',aJ H H'→Q o H'
def VO (X:Cx) (Z:Zc) (e:Option Expr) (f:FO):Prop:=Bx fun tm=>PO X e (lO X Z tm f)
instance {X:Cx} {Z:Zc} {e:Option Expr} {f:FO}:CoeFun (VO X Z e f) fun _=>∀ tm,PO X e (lO X Z tm f):=⟨fun h=>Bx.h h⟩
theorem PO.weak {X:Cx} {e:Option Expr} {t t':TO} (h:PO X e t) (hw:∀ σ H Q,t' σ H Q→t σ H Q):PO X e t':=fun pins s σ H Q I q=>h pins s σ H Q I (hw _ _ _ q)
def WL:FO:=fun _ Q=>Q none
def WM (f:FE):FO:=fun ρ Q=>f ρ fun t=>match t with
 | .int i=>Q (some i)
 | _=>False
def cm {α:Type} (xs:List α) (lo hi:Option Int):List α:=(xs.drop (HT.cX xs.length 0 lo)).take (HT.cX xs.length xs.length hi - HT.cX xs.length 0 lo)
theorem aG.cut {K:PySem.W.Frag} {H:Hp} {A:List Addr} {ts:List T} {vs:List V} (h:aG K H A ts vs) (lo hi:Option Int):aG K H A (cm ts lo hi) (ua vs lo hi):=by
 unfold cm ua
 rw [h.length]
 exact (h.drop _).take _
def S3 (K:PySem.W.Frag):V→Option Int→Option Int→Hp→VK→Prop:=fun x lo hi H Q=>NR K x lo hi H Q∨NL K x lo hi H Q∨N7 x lo hi H Q
theorem S4 {X:Cx}:BE X (S3 X.K):=BE.or Fd (BE.or JN Ka)
def Vq (x:T) (lo hi:Option Int) (q:Rt→Prop):Prop:=match x with
 | .lst ts=>q (.fr (.lst (cm ts lo hi)))
 | .tup ts=>¬ (HT.cX ts.length 0 lo=0∧HT.cX ts.length ts.length hi=ts.length)∧q (.vw (.tup (cm ts lo hi)))
 | .str z=>z.length≤sizeLine∧q (.vw (.str (Txt.slice z lo hi)))
 | _=>False
def WN (fa:FE) (fl fh:FO):FP:=fun ρ Q=>fa ρ fun x=>fl ρ fun lo=>fh ρ fun hi=>Vq x lo hi Q
section
variable {X:Cx} {Z:Zc} {e a b:Expr} {lo hi:Option Expr} {pos p2:Pos} {fa:FE} {fl fh:FO}
theorem dU:VO X Z none WL:=.mk fun tm=>PO.weak E9 fun σ H Q ⟨ρ,O,q,I,hf,k⟩=>k _ hf H (aJ.refl H)
theorem ck (h:VR X Z e fa):VO X Z (some e) (WM fa):=.mk fun tm=>PO.weak (E_ (h tm)) fun σ H Q ⟨ρ,O,q,I,hf,k⟩=>⟨ρ,O,_,I,hf,fun t ht v H' s z=>by
 split at ht
 · exact ⟨_,z.int,k _ ht H' s⟩
 · exact ht.elim⟩
theorem b5 (he:VR X Z e fa) (hl:VO X Z lo fl) (hh:VO X Z hi fh):VP X Z (.Subscript e (.Slice lo hi none p2) pos) (WN fa fl fh) :=
 .mk fun tm=>PE.weak (BF S4 (he tm) (hl tm) (hh tm)) fun σ H Q ⟨ρ,O,q,I,hf,k⟩=>⟨ρ,O,_,I,hf,fun x hx v H1 s1 a1=>⟨ρ,O,_,I.same s1,hx,fun l hl H2 s2=>⟨ρ,O,_,(I.same s1).same s2,hl,fun u hu H3 s3=>by
  have J:=((I.same s1).same s2).same s3
  have a3:=(a1.same s2).same s3
  have S:=(s1.trans s2).trans s3
  unfold Vq at hu
  split at hu
  · obtain ⟨p,vs,rfl,q1,q2⟩:=a3.lst
    exact .inl ⟨p,vs,rfl,q1,fun r hr=>k _ hu _ _ (S.trans (aS hr)) (J.BQ hr (q2.cut _ _))⟩
  · obtain ⟨p,vs,rfl,q1,q2⟩:=a3.tup
    refine .inr (.inl ⟨p,vs,rfl,q1,by rw [q2.length]; exact hu.1,fun r hr=>k _ hu.2 _ _ (S.trans (aS hr)) ⟨J.same (aS hr),bz (dw.of aU) ((q2.cut _ _).same (aS hr))⟩⟩)
  · exact .inr (.inr ⟨_,a3.str,hu.1,k _ hu.2 _ H3 S ⟨J,bZ⟩⟩)
  · exact hu.elim⟩⟩⟩
end
def HR (g:FA) (p:List T→(Rt→Prop)→Prop):FP:=fun ρ Q=>g ρ fun ts=>p ts Q
def n6 (K:PySem.W.Frag) (r:List V→Hp→VK→Prop) (p:List T→(Rt→Prop)→Prop):Prop :=
 ∀ (Z:Zc) (tm:List (T×V)) (O:List (Option Addr)) (ρ:En) (σ:St) (H:Hp) (ts:List T) (vs:List V) (q:Rt→Prop) (Q:VK),az K Z tm O ρ σ H→Paired (fun v t=>gD K H (av Z O) t v) vs ts→p ts q →
  (∀ t,q t→∀ u H',aJ H H'→iL K Z tm O ρ σ H' t u→Q u H')→r vs H Q
section
variable {X:Cx} {Z:Zc} {e a b:Expr} {es:List Expr} {pos p:Pos} {g:FA} {x:Str} {id Ty:String} {r:List V→Hp→VK→Prop} {pp:List T→(Rt→Prop)→Prop}
theorem aE (hc:cU X (.builtin id) r) (ht:n6 X.K r pp) (hg:Gl X x) (hm:X.mg x=none) (hv:bootBuiltins x=some (.builtin id)) (ha:Es X Z (e :: es) g) (hn:x≠"__name__":=by decide) (nP:gg x:=by decide)
  (hs:starEach (e :: es) X.env=(false,eval e X.env) :: starEach es X.env:=by rfl) (fM:(backTo pos (starEach es X.env)).any (·.1)=false:=by rfl):VP X Z (.Call (.Name x p) (e :: es) [] pos) (HR g pp) :=
 .mk fun tm=>PE.weak (kj hc hg hm hv (ha tm) hn nP hs fM) fun σ H Q ⟨ρ,O,q,I,hf,k⟩=>⟨ρ,O,_,I,hf,fun ts gE vs H1 s1 a1=>ht Z tm O ρ σ H1 ts vs q _ (I.same s1) a1 gE fun t h u H' s z=>k t h u H' (s1.trans s) z⟩
theorem eE (hc:cU X (.type Ty) r) (ht:n6 X.K r pp) (hg:Gl X x) (hm:X.mg x=none) (hv:bootBuiltins x=some (.type Ty)) (ha:Es X Z (e :: es) g) (hn:x≠"__name__":=by decide) (nP:gg x:=by decide)
  (hs:starEach (e :: es) X.env=(false,eval e X.env) :: starEach es X.env:=by rfl) (fM:(backTo pos (starEach es X.env)).any (·.1)=false:=by rfl):VP X Z (.Call (.Name x p) (e :: es) [] pos) (HR g pp) :=
 .mk fun tm=>PE.weak (qX hc hg hm hv (ha tm) hn nP hs fM) fun σ H Q ⟨ρ,O,q,I,hf,k⟩=>⟨ρ,O,_,I,hf,fun ts gE vs H1 s1 a1=>ht Z tm O ρ σ H1 ts vs q _ (I.same s1) a1 gE fun t h u H' s z=>k t h u H' (s1.trans s) z⟩
end
def Oc (ts:List T) (q:Rt→Prop):Prop:=match ts with
 | [.lst l]=>q (.vw (.int l.length))
 | [.tup l]=>q (.vw (.int l.length))
 | [.str z]=>z.length≤sizeLine∧q (.vw (.int z.length))
 | _=>False
def HS (K:PySem.W.Frag):List V→Hp→VK→Prop:=fun xs H Q=>(∃ p ys,xs=[.ref p]∧(eI K H p ys∨dw K H p ys)∧Q (.int ys.length) H)∨(∃ z,xs=[.str z]∧z.length≤sizeLine∧Q (.int z.length) H)
theorem aA {X:Cx}:cU X (.builtin "len") (HS X.K):=cU.or r6 r8
theorem cA {α β:Type} {F:α→β→Prop} {vs:List α} {t:β} (h:Paired F vs [t]):∃ v,vs=[v]∧F v t:=by
 cases h with
 | cons r q=>cases q; exact ⟨_,rfl,r⟩
theorem aB {K:PySem.W.Frag}:n6 K (HS K) Oc:=by
 intro Z tm O ρ σ H ts vs q Q I h hp k
 unfold Oc at hp
 split at hp
 · obtain ⟨v,rfl,a⟩:=cA h
   obtain ⟨p,ws,rfl,q1,q2⟩:=a.lst
   exact .inl ⟨p,ws,rfl,.inl q1,k _ hp _ H (aJ.refl H) ⟨I,by rw [q2.length]; exact bE⟩⟩
 · obtain ⟨v,rfl,a⟩:=cA h
   obtain ⟨p,ws,rfl,q1,q2⟩:=a.tup
   exact .inl ⟨p,ws,rfl,.inr q1,k _ hp _ H (aJ.refl H) ⟨I,by rw [q2.length]; exact bE⟩⟩
 · obtain ⟨v,rfl,a⟩:=cA h
   exact .inr ⟨_,by rw [a.str],hp.1,k _ hp.2 _ H (aJ.refl H) ⟨I,bE⟩⟩
 · exact hp.elim
def HU (ts:List T) (q:Rt→Prop):Prop:=match ts with
 | [.lst l]=>q (.fr (.lst l))
 | [.tup l]=>q (.fr (.lst l))
 | _=>False
theorem gM {K:PySem.W.Frag}:n6 K (fun xs H Q=>∃ p ys,xs=[.ref p]∧(eI K H p ys∨dw K H p ys)∧∀ l,H l=none→Q (.ref l) (upd H l (.lst ys))) HU:=by
 intro Z tm O ρ σ H ts vs q Q I h hp k
 unfold HU at hp
 split at hp
 · obtain ⟨v,rfl,a⟩:=cA h
   obtain ⟨p,ws,rfl,q1,q2⟩:=a.lst
   exact ⟨p,ws,rfl,.inl q1,fun l hl=>k _ hp _ _ (aS hl) (I.BQ hl q2)⟩
 · obtain ⟨v,rfl,a⟩:=cA h
   obtain ⟨p,ws,rfl,q1,q2⟩:=a.tup
   exact ⟨p,ws,rfl,.inr q1,fun l hl=>k _ hp _ _ (aS hl) (I.BQ hl q2)⟩
 · exact hp.elim
def B1 (ts:List T) (q:Rt→Prop):Prop:=match ts with
 | [.lst l]=>q (.vw (.tup l))
 | [.tup l]=>q (.vw (.tup l))
 | _=>False
theorem mj {K:PySem.W.Frag}:n6 K (fun xs H Q=>∃ p ys,xs=[.ref p]∧((eI K H p ys∧∀ l,H l=none→Q (.ref l) (upd H l (.tup ys)))∨(dw K H p ys∧Q (.ref p) H))) B1:=by
 intro Z tm O ρ σ H ts vs q Q I h hp k
 unfold B1 at hp
 split at hp
 · obtain ⟨v,rfl,a⟩:=cA h
   obtain ⟨p,ws,rfl,q1,q2⟩:=a.lst
   exact ⟨p,ws,rfl,.inl ⟨q1,fun l hl=>k _ hp _ _ (aS hl) ⟨I.same (aS hl),bz (dw.of aU) (q2.same (aS hl))⟩⟩⟩
 · obtain ⟨v,rfl,a⟩:=cA h
   obtain ⟨p,ws,rfl,q1,q2⟩:=a.tup
   exact ⟨p,ws,rfl,.inr ⟨q1,k _ hp _ H (aJ.refl H) ⟨I,bz q1 q2⟩⟩⟩
 · exact hp.elim
structure HV where
 nx:En→Prop
 rt:En→Rt→Prop
 bk:En→Prop:=fun _=>False
 ct:En→Prop:=fun _=>False
structure Fin (K:PySem.W.Frag) (Z:Zc) (tm:List (T×V)) (d:HV) (D:Ends):Prop where
 nx:∀ O ρ σ H,az K Z tm O ρ σ H→d.nx ρ→D.nx σ H
 rt:∀ O ρ σ H r v,iL K Z tm O ρ σ H r v→d.rt ρ r→D.rt v H
 bk:∀ O ρ σ H,az K Z tm O ρ σ H→d.bk ρ→D.bk σ H
 ct:∀ O ρ σ H,az K Z tm O ρ σ H→d.ct ρ→D.ct σ H
abbrev FS:=HV→En→Prop
def lS (X:Cx) (Z:Zc) (tm:List (T×V)) (g:FS):TS:=fun D σ H=>∃ ρ O d,az X.K Z tm O ρ σ H∧g d ρ∧Fin X.K Z tm d D
def VS (X:Cx) (Z:Zc) (st:Stmt) (g:FS):Prop:=Bx fun tm=>PS X st (lS X Z tm g)
instance {X:Cx} {Z:Zc} {st:Stmt} {g:FS}:CoeFun (VS X Z st g) fun _=>∀ tm,PS X st (lS X Z tm g):=⟨fun h=>Bx.h h⟩
def ky (X:Cx) (Z:Zc) (st:List Stmt) (g:FS):Prop:=Bx fun tm=>nh X st (lS X Z tm g)
instance {X:Cx} {Z:Zc} {st:List Stmt} {g:FS}:CoeFun (ky X Z st g) fun _=>∀ tm,nh X st (lS X Z tm g):=⟨fun h=>Bx.h h⟩
def aY (Z:Zc) (i:Nat):Prop:=∀ p∈Z.P,p.1≠i
section
variable {X:Cx} {Z:Zc} {st:Stmt} {rest:List Stmt} {g u:FS} {e:Expr} {pos:Pos}
def Od:FS:=fun d ρ=>d.nx ρ
def S6 (g u:FS):FS:=fun d ρ=>g { d with nx:=u d } ρ
theorem ay:ky X Z [] Od:=.mk fun tm=>nh.um ER fun D σ H ⟨ρ,O,d,I,h,F⟩=>F.nx O ρ σ H I h
theorem af (h1:VS X Z st g) (h2:ky X Z rest u):ky X Z (st :: rest) (S6 g u):=.mk fun tm=>nh.um (nN (h1 tm) (h2 tm)) fun D σ H ⟨ρ,O,d,I,h,F⟩ =>
 ⟨ρ,O,{ d with nx:=u d },I,h,⟨fun O' ρ' σ' H' I' h'=>⟨ρ',O',d,I',h',F⟩,F.rt,F.bk,F.ct⟩⟩
theorem ah (h1:VS X Z st g):ky X Z [st] g:=.mk fun tm=>rT (h1 tm)
theorem ky.weak (h:ky X Z rest g) (hw:∀ d ρ,u d ρ→g d ρ):ky X Z rest u:=.mk fun tm=>nh.um (h tm) fun D σ H ⟨ρ,O,d,I,q,F⟩=>⟨ρ,O,d,I,hw d ρ q,F⟩
def Oe (f:FX):FS:=fun d ρ=>f ρ fun ρ' _=>d.nx ρ'
theorem a_ {f:FX} (h:VX X Z e f) (hs:swapsWith e none pos.line X.env=pure false:=by rfl):VS X Z (.Expr e pos) (Oe f):=.mk fun tm=>PS.weak (nq (h tm) hs) fun D σ H ⟨ρ,O,d,I,q,F⟩ =>
 ⟨ρ,O,_,I,q,fun ρ' r hr O' v H' z=>F.nx O' ρ' σ H' z.env hr⟩
def S7 (f:FX):FS:=fun d ρ=>f ρ fun ρ' r=>d.rt ρ' r
theorem aD {f:FX} (h:VX X Z e f):VS X Z (.Return (some e) pos) (S7 f):=.mk fun tm=>PS.weak (Jo (h tm)) fun D σ H ⟨ρ,O,d,I,q,F⟩ =>
 ⟨ρ,O,_,I,q,fun ρ' r hr O' v H' z=>F.rt O' ρ' σ H' r v z hr⟩
def WO (c:FB) (g u:FS):FS:=fun d ρ=>c ρ fun b=>if b=true then g d ρ else u d ρ
theorem aL {c:Expr} {fc:FB} {a b:List Stmt} (hc:VC X Z c fc) (ha:ky X Z a g) (hb:ky X Z b u):VS X Z (.If c a b pos) (WO fc g u):=.mk fun tm=>PS.weak (Np (hc tm) (ha tm) (hb tm)) fun D σ H ⟨ρ,O,d,I,q,F⟩ =>
 ⟨ρ,O,_,I,q,fun b hb H' s=>by
   cases b with
   | true=>rw [if_pos rfl] at hb ⊢; exact ⟨ρ,O,d,I.same s,hb,F⟩
   | false=>rw [if_neg nL] at hb ⊢; exact ⟨ρ,O,d,I.same s,hb,F⟩⟩
def Of (i:Nat) (f:FX):FS:=fun d ρ=>f ρ fun ρ' r=>d.nx (ρ'.set i (some (r.t,false)))
def S8 (i:Nat) (f:FX):FS:=fun d ρ=>f ρ fun ρ' r=>match r with
 | .fr t=>d.nx (ρ'.set i (some (t,true)))
 | _=>False
theorem aP {i:Nat} {x:Str} {f:FX} {pos':Pos} (hN:X.N.Nodup) (hi:X.N[i]?=some x) (hx:Loc X.env.scope x) (he:VX X Z e f) (hp:aY Z i) (hs:swapsWith e (some (.Name x pos')) pos.line X.env=pure false:=by rfl)
  (hf:X.fn x=true∨X.env.scope.names.lookup x=some .local:=by first | exact .inl rfl | exact .inr rfl | assumption):VS X Z (.Assign [.Name x pos'] e pos) (Of i f):=.mk fun tm=>PS.weak (vS hN hi hx (he tm) hs hf) fun D σ H ⟨ρ,O,d,I,q,F⟩ =>
 ⟨ρ,O,_,I,q,fun ρ' r hr O' v H' z=>F.nx _ _ _ H' (z.env.put hp z.at) hr⟩
theorem dC {i:Nat} {x:Str} {f:FX} {pos':Pos} (hN:X.N.Nodup) (hi:X.N[i]?=some x) (hx:Loc X.env.scope x) (he:VX X Z e f) (hp:aY Z i) (hs:swapsWith e (some (.Name x pos')) pos.line X.env=pure false:=by rfl)
  (hf:X.fn x=true∨X.env.scope.names.lookup x=some .local:=by first | exact .inl rfl | exact .inr rfl | assumption):VS X Z (.Assign [.Name x pos'] e pos) (S8 i f):=.mk fun tm=>PS.weak (vS hN hi hx (he tm) hs hf) fun D σ H ⟨ρ,O,d,I,q,F⟩ =>
 ⟨ρ,O,_,I,q,fun ρ' r hr O' v H' z=>by
   split at hr
   · obtain ⟨a,rfl,J,hR,h0,My⟩:=z
     exact F.nx _ _ _ H' (J.SK hp hR h0 My) hr
   · exact hr.elim⟩
def Og (i:Nat) (f:FE) (p:T→T→(Rt→Prop)→Prop):FS:=fun d ρ=>match ρ[i]? with
 | some (some (x,false))=>f ρ fun y=>p x y fun r=>d.nx (ρ.set i (some (r.t,false)))
 | _=>False
theorem Kr {i:Nat} {x:Str} {f:FE} {op:Operator} {r:R2} {p:T→T→(Rt→Prop)→Prop} {pos':Pos} (hN:X.N.Nodup) (hi:X.N[i]?=some x) (hx:Loc X.env.scope x) (he:VR X Z e f) (ho:dY X (inplaceOp op) r) (ht:nW X.K r p) (hp:aY Z i)
  (hf:X.fn x=true∨X.env.scope.names.lookup x=some .local:=by first | exact .inl rfl | exact .inr rfl | assumption):VS X Z (.AugAssign (.Name x pos') op e pos) (Og i f p):=.mk fun tm=>PS.weak (Js hN hi hx (he tm) ho hf) fun D σ H ⟨ρ,O,d,I,q,F⟩=>by
 unfold Og at q
 split at q
 · rename_i t e0
   obtain ⟨o,s,h1,h2,rfl,v,rfl,h3⟩:=I.sl i _ e0
   refine ⟨v,h2,ρ,O,_,I,q,fun y hy w H1 s1 a1=>?_⟩
   exact ht Z tm O ρ σ H1 t y v w _ _ (I.same s1) (.inl (h3.same s1)) a1 hy fun r hr z H2 s2 k=>F.nx _ _ _ H2 (k.env.put hp k.at) hr
 · exact q.elim
def S9 (is:List Nat) (g:FS):FS:=fun d ρ=>g d (is.foldl (fun ρ i=>match ρ[i]? with
 | some (some (t,true))=>ρ.set i (some (t,false))
 | _=>ρ) ρ)
theorem n8 {K:PySem.W.Frag} {tm:List (T×V)}:∀ (is:List Nat) {O:List (Option Addr)} {ρ:En} {σ:St} {H:Hp},(∀ i∈is,aY Z i)→az K Z tm O ρ σ H→∃ O',az K Z tm O' (is.foldl (fun ρ i=>match ρ[i]? with
 | some (some (t,true))=>ρ.set i (some (t,false))
 | _=>ρ) ρ) σ H
 | [],O,ρ,σ,H,_,I=>⟨O,I⟩
 | i :: is,O,ρ,σ,H,hp,I=>by
   rw [List.foldl_cons]
   have QY:∀ j∈is,aY Z j:=fun j hj=>hp j (jc _ hj)
   split
   · rename_i t e
     exact n8 is QY (I.tV (hp i jz) e)
   · exact n8 is QY I
theorem yo (is:List Nat) (h:ky X Z rest g) (hp:∀ i∈is,aY Z i):ky X Z rest (S9 is g):=.mk fun tm=>nh.um (h tm) fun D σ H ⟨ρ,O,d,I,q,F⟩=>let ⟨O',I'⟩:=n8 is hp I; ⟨_,O',d,I',q,F⟩
end
section
variable {X:Cx} {Z:Zc} {e a b:Expr} {es:List Expr} {pos apos bf:Pos}
theorem az.root {K:PySem.W.Frag} {tm:List (T×V)} {O:List (Option Addr)} {ρ:En} {σ:St} {H:Hp} (I:az K Z tm O ρ σ H) {k:Nat} {t:T} (e:ρ[k]?=some (some (t,true))):∃ a,O[k]?=some (some a)∧σ[k]?=some (some (.ref a))∧cq K H (av Z O) a t:=by
 obtain ⟨o,s,h1,h2,a,rfl,rfl,h3⟩:=I.sl k _ e
 exact ⟨a,h1,h2,h3⟩
def yp (k:Nat) (g:FA) (p:List T→List T→(List T→T→Prop)→Prop):FX:=fun ρ Q=>match ρ[k]? with
 | some (some (.lst ts,true))=>g ρ fun vs=>p ts vs fun jS r=>Q (ρ.set k (some (.lst jS,true))) (.vw r)
 | _=>False
def Mz (K:PySem.W.Frag) (r:V→List V→Hp→VK→Prop) (p:List T→List T→(List T→T→Prop)→Prop):Prop :=
 ∀ (H:Hp) (A:List Addr) (l:Addr) (xs:List V) (ts us:List T) (vs:List V) (q:List T→T→Prop) (Q:VK),l∈A→H l=some (.lst xs)→aG K H A ts xs→aG K H A us vs→p ts us q →
  (∀ jS t,q jS t→∀ QZ v,aG K H A jS QZ→At K H A t v→Q v (upd H l (.lst QZ)))→r (.ref l) vs H Q
theorem yq {r:V→List V→Hp→VK→Prop} {p:List T→List T→(List T→T→Prop)→Prop} (hm:Mz X.K r p) {k:Nat} {g:FA} {tm:List (T×V)} {σ:St} {H:Hp} {Q:VK} (h:lX X Z tm (yp k g p) σ H Q) :
  ∃ l,σ[k]?=some (some (.ref l))∧(∃ xs,eI X.K H l xs)∧lA X Z tm g σ H fun vs H1=>r (.ref l) vs H1 Q:=by
 obtain ⟨ρ,O,q,I,hf,kk⟩:=h
 unfold yp at hf
 split at hf
 · rename_i ts e0
   obtain ⟨l,h1,h2,xs,h3,h4⟩:=I.root e0
   refine ⟨l,h2,⟨xs,eI.of h3⟩,ρ,O,_,I,hf,fun us Sn vs H1 s1 a1=>?_⟩
   have J:=I.same s1
   have ha:l∈av Z O:=mz _ (aN.mpr (mY h1))
   refine hm H1 (av Z O) l xs ts us vs _ Q ha (s1 _ _ h3) (h4.same s1) a1 Sn fun jS t ht QZ v b1 b2=>?_
   exact kk _ _ ht O _ _ ⟨J.wrote e0 h1 ⟨QZ,aU,b1.wrote ha (s1 _ _ h3) rfl⟩,b2.wrote ha (s1 _ _ h3) rfl⟩
 · exact hf.elim
theorem dy (k:Nat) {x name:Str} {id:String} {p:Pos} {g:FA} {r:V→List V→Hp→VK→Prop} {pp:List T→List T→(List T→T→Prop)→Prop} (slot:Slot "list" name id) (JU:typeOf (.builtin id)=pure (.type "method_descriptor")) (hm:Be X id r) (ht:Mz X.K r pp) (ha:VA X Z (e :: es) g)
  (hN:X.N[k]?=some x:=by rfl) (hv:rR X.env.scope x:=by first | exact Or.inl rfl | exact Or.inr (Or.inl rfl) | exact Or.inr (Or.inr rfl)) (hd:gg x:=by decide)
  (iA:tZ x:=by decide) (eJ:attributeBase (.Name x p) name X.env (eval (.Name x p) X.env)=eval (.Name x p) X.env:=by rfl)
  (nS:((backTo bf (starEach (e :: es) X.env)).all (fun x=>!x.1) && (backToKw bf (keywordEach [] X.env)).all (fun x=>x.1.isSome)
    && decide ((e :: es).length+([]:List Keyword).length+(if ([]:List Keyword).isEmpty then 0 else 1) < 30))=true:=by rfl)
  (eM:(apos.endLine == bf.line)=true:=by rfl) (hs:starEach (e :: es) X.env=(false,eval e X.env) :: starEach es X.env:=by rfl) (eO:(backTo bf (starEach es X.env)).any (·.1)=false:=by rfl) :
  VX X Z (.Call (.Attribute (.Name x p) name apos) (e :: es) [] bf) (yp k g pp):=.mk fun tm =>
 PE.weak (ub QC slot JU hm (cQ hN hv hd iA) (ha tm) eJ nS eM hs eO) fun σ H Q h =>
  let ⟨l,h1,h2,h3⟩:=yq ht h; ⟨.ref l,h1,.inl ⟨rfl,h2⟩,h3⟩
theorem B2 (k:Nat) {x name:Str} {id:String} {p:Pos} {r:V→List V→Hp→VK→Prop} {pp:List T→List T→(List T→T→Prop)→Prop} (slot:Slot "list" name id) (JU:typeOf (.builtin id)=pure (.type "method_descriptor")) (hm:Be X id r) (ht:Mz X.K r pp)
  (hN:X.N[k]?=some x:=by rfl) (hv:rR X.env.scope x:=by first | exact Or.inl rfl | exact Or.inr (Or.inl rfl) | exact Or.inr (Or.inr rfl)) (hd:gg x:=by decide)
  (iA:tZ x:=by decide) (eJ:attributeBase (.Name x p) name X.env (eval (.Name x p) X.env)=eval (.Name x p) X.env:=by rfl)
  (eM:(apos.endLine == bf.line)=true:=by rfl):VX X Z (.Call (.Attribute (.Name x p) name apos) [] [] bf) (yp k BU pp):=.mk fun tm =>
 PE.weak (JT QC slot JU hm (cQ hN hv hd iA) eJ eM) fun σ H Q h=>by
  obtain ⟨l,h1,h2,ρ,O,q,I,hf,kk⟩:=yq ht h
  exact ⟨.ref l,h1,.inl ⟨rfl,h2⟩,kk [] hf [] H (aJ.refl H) aG.nil⟩
def yr (ts us:List T) (q:List T→T→Prop):Prop:=match us with
 | [t]=>ts.length < sizeLine∧q (ts ++ [t]) .bh
 | _=>False
theorem ba {K:PySem.W.Frag}:Mz K yj yr:=by
 intro H A l xs ts us vs q Q hl hH h1 h2 hp k
 unfold yr at hp
 split at hp
 · obtain ⟨v,rfl,a⟩:=cA (aG.iff.mp h2)
   exact ⟨l,xs,v,rfl,rfl,hH,by rw [h1.length]; exact hp.1,k _ _ hp.2 _ _ (h1.append (aG.cons a aG.nil)) lp⟩
 · exact hp.elim
def S_ (ts us:List T) (q:List T→T→Prop):Prop:=us=[]∧∃ t,ts[ts.length - 1]?=some t∧q ts.dropLast t
theorem aG.dropLast {K:PySem.W.Frag} {H:Hp} {A:List Addr} {ts:List T} {vs:List V} (h:aG K H A ts vs):aG K H A ts.dropLast vs.dropLast:=by
 rw [List.dropLast_eq_take,List.dropLast_eq_take,h.length]
 exact h.take _
theorem yt {K:PySem.W.Frag}:Mz K NT S_:=by
 intro H A l xs ts us vs q Q hl hH h1 h2 hp k
 obtain ⟨rfl,t,e1,hq⟩:=hp
 have e:vs=[]:=by simpa only [aG] using h2
 obtain ⟨v,e2,a⟩:=h1.get e1
 exact ⟨l,xs,v,rfl,e,hH,by rw [h1.length]; exact e2,k _ _ hq _ _ h1.dropLast a⟩
def HW (k:Nat) (f fi:FE):FS:=fun d ρ=>match ρ[k]? with
 | some (some (.lst ts,true))=>f ρ fun v=>fi ρ fun i=>match i with
   | .int j=>∃ n,vK ts.length j=some n∧d.nx (ρ.set k (some (.lst (ts.set n v),true)))
   | _=>False
 | _=>False
theorem n9 (k:Nat) {x:Str} {p:Pos} {f fi:FE} {i:Expr} {qd:Pos} (he:VE X Z e f) (hi:VR X Z i fi)
  (hN:X.N[k]?=some x:=by rfl) (hv:rR X.env.scope x:=by first | exact Or.inl rfl | exact Or.inr (Or.inl rfl) | exact Or.inr (Or.inr rfl)) (hd:gg x:=by decide)
  (iA:tZ x:=by decide)
  (ha:∀ v,assign (.Subscript (.Name x p) i qd) X.env v=(do
    let ov ← holding [v] (eval (.Name x p) X.env)
    let iv ← holding [v,ov] (eval i X.env)
    standAt qd
    holding [v,ov,iv] (setItem ov iv v)
    release [v,ov,iv] []):=by intro _; rfl)
  (hs:swapsWithSole [.Subscript (.Name x p) i qd] e pos.line X.env=pure false:=by rfl) (hw:swappedStores [.Subscript (.Name x p) i qd] e X.env=pure none:=by rfl)
  (h1:(assignEach [.Subscript (.Name x p) i qd] X.env).map (·.2)=[assign (.Subscript (.Name x p) i qd) X.env]:=by rfl):VS X Z (.Assign [.Subscript (.Name x p) i qd] e pos) (HW k f fi):=.mk fun tm =>
 PS.weak (Bv (he tm) (Jr (cQ hN hv hd iA) (hi tm) set_list ha) hs hw h1) fun D σ H ⟨ρ,O,d,I,q,F⟩=>by
  unfold HW at q
  split at q
  · rename_i ts e0
    obtain ⟨l,h1,h2,xs,h3,h4⟩:=I.root e0
    have ha:l∈av Z O:=mz _ (aN.mpr (mY h1))
    refine ⟨ρ,O,_,I,q,fun t ht v H1 s1 a1=>⟨.ref l,h2,ρ,O,_,I.same s1,ht,fun j hj w H2 s2 a2=>?_⟩⟩
    split at hj
    · obtain ⟨n,e1,hj⟩:=hj
      refine ⟨l,xs,_,n,rfl,a2.int,s2 _ _ (s1 _ _ h3),by rw [h4.length]; exact e1,?_⟩
      refine F.nx O _ σ _ (((I.same s1).same s2).wrote (t':=.lst (ts.set n t)) e0 h1 ⟨xs.set n v,aU,?_⟩) hj
      exact aG.wrote ha (s2 _ _ (s1 _ _ h3)) rfl (((h4.same s1).same s2).set n (a1.same s2))
    · exact hj.elim
  · exact q.elim
theorem az.give {K:PySem.W.Frag} {tm:List (T×V)} {O:List (Option Addr)} {ρ:En} {σ:St} {H:Hp} (I:az K Z tm O ρ σ H) {i:Nat} {t:T} (hp:aY Z i) (hi:ρ[i]?=some (some (t,true))):∃ a,σ[i]?=some (some (.ref a))∧iL K Z tm (O.set i none) (ρ.set i none) σ H (.fr t) (.ref a):=by
 obtain ⟨a,h1,h2,h3⟩:=I.root hi
 have ha:a∈roots O:=aN.mpr (mY h1)
 obtain ⟨o1,o2,o3⟩:=I.own a ha
 have J:=I.forget hp
 have J2:=I.tV hp hi
 have na:a∉roots (O.set i none):=fun z=>by
  obtain ⟨o,s,g1,g2,g3,v,g4,g5⟩:=J2.sl i (some (t,false)) (by rw [x5 (by rw [← I.lO]; exact (gh.mp h1).1)])
  rw [h2] at g2
  cases g2
  cases g4
  have nn:a∉av Z (O.set i none):=by
   obtain ⟨u,eu,mu⟩:=h3.mut
   cases t with
   | lst ts=>simp only [At] at g5; obtain ⟨b,vs,eb,l,_⟩:=g5; cases eb; rcases l with l | ⟨oo,_,_,lk,_⟩
             · exact l.2
             · exact fun z2=>by
                have key:∀ (O:List (Option Addr)) (i:Nat),O[i]?=some (some a)→(roots O).Nodup→a∉roots (O.set i none):=by
                 intro O
                 induction O with
                 | nil=>intro i h; simp at h
                 | cons o O ih =>
                   intro i h nd
                   cases i with
                   | zero =>
                     have:o=some a:=by simpa using h
                     subst this
                     simp only [roots,QI,mZ,id] at nd ⊢
                     exact (qQ.mp nd).1
                   | succ i =>
                     have h':O[i]?=some (some a):=by simpa using h
                     cases o with
                     | none=>simp only [roots,Mp,mZ,id] at nd ⊢; exact ih i h' nd
                     | some b =>
                       simp only [roots,Mp,mZ,id] at nd ⊢
                       rw [qQ] at nd
                       intro z
                       rcases dS.mp z with z | z
                       · exact nd.1 (by rw [← z]; exact aN.mpr (mY h'))
                       · exact ih i h' nd.2 z
                rcases jA.mp z2 with z2 | z2
                · exact key O i h1 I.nd z2
                · exact o2 z2
   | dk ks ts=>simp only [At] at g5; obtain ⟨b,vs,eb,_,d,_⟩:=g5; cases eb; exact d.2
   | dt ks ts=>simp only [At] at g5; obtain ⟨b,vs,eb,_,d,_⟩:=g5; cases eb; exact d.2
   | ins C ns ts=>simp only [At] at g5; obtain ⟨b,dx,vs,eb,_,d,_⟩:=g5; cases eb; exact d.2
   | _=>exact h3.elim
  exact nn (mz _ z)
 have hP:Z.H0 a=none:=by
  rcases o1 with z | z
  · obtain ⟨p,WQ,rfl⟩:=y_.mp z
    have:=J.par p WQ
    exact absurd (aN.mpr (mY this)) na
  · exact z
 have sub:∀ b∈av (Z.ex a) (O.set i none),b∈av Z O:=fun b hb=>by
  rcases cV b hb with z | z
  · exact bX i b z
  · rw [z]; exact mz _ ha
 refine ⟨a,h2,a,rfl,⟨J.lσ,J.lO,fun j e h=>?_,J.nd,fun b hb=>?_,J.par,fun b hb=>?_,J.keep,fun p hp=>(I.nz p hp).bq sub⟩,h3.bq sub,hP,o2⟩
 · rcases get_set h with ⟨rfl,rfl,hl⟩ | ⟨ne,h⟩
   · obtain ⟨o,s,g1,g2,g3⟩:=J.sl j none (by rw [x5 hl])
     exact ⟨o,s,g1,g2,g3⟩
   · obtain ⟨o,s,g1,g2,g3⟩:=I.sl j e h
     exact ⟨o,s,by rw [t7 (Ne.symm ne)]; exact g1,g2,g3.map (fun _ _ q=>q.bq sub) fun _ _ _ q=>q.bq sub⟩
 · obtain ⟨q1,q2,q3⟩:=J.own b hb
   refine ⟨q1,fun z=>?_,q3⟩
   rcases dS.mp z with z | z
   · exact na (by rw [← z]; exact hb)
   · exact q2 z
 · rcases dS.mp hb with z | z
   · obtain ⟨u,eu,_⟩:=o3; rw [z,eu]; simp
   · exact I.ox b z
def HX (i:Nat):FX:=fun ρ Q=>match ρ[i]? with
 | some (some (t,true))=>Q (ρ.set i none) (.fr t)
 | some (some (t,false))=>Q ρ (.vw t)
 | _=>False
theorem gN (i:Nat) {x:Str} (hp:aY Z i) (hN:X.N[i]?=some x:=by rfl) (hv:rR X.env.scope x:=by first | exact Or.inl rfl | exact Or.inr (Or.inl rfl) | exact Or.inr (Or.inr rfl)) (hd:gg x:=by decide)
  (iA:tZ x:=by decide):VX X Z (.Name x pos) (HX i):=.mk fun tm=>PE.weak (cQ hN hv hd iA) fun σ H Q ⟨ρ,O,q,I,hf,k⟩=>by
 unfold HX at hf
 split at hf
 · rename_i t e
   obtain ⟨a,h1,h2⟩:=I.give hp e
   exact ⟨_,h1,k _ _ hf _ _ H h2⟩
 · rename_i t e
   obtain ⟨o,s,h1,h2,rfl,v,rfl,h3⟩:=I.sl i _ e
   exact ⟨v,h2,k _ _ hf O v H ⟨I,h3⟩⟩
 · exact hf.elim
end
theorem az.ur {K:PySem.W.Frag} {Z:Zc} {tm Vr:List (T×V)} {O:List (Option Addr)} {ρ:En} {σ:St} {H:Hp} (I:az K Z tm O ρ σ H) (h:∀ p∈Vr,At K H (av Z O) p.1 p.2):az K Z Vr O ρ σ H :=
 ⟨I.lσ,I.lO,I.sl,I.nd,I.own,I.par,I.ox,I.keep,h⟩
theorem iL.ur {K:PySem.W.Frag} {Z:Zc} {bG tm:List (T×V)} {O:List (Option Addr)} {ρ:En} {σ:St} {H:Hp} {r:Rt} {v:V} (h:iL K Z (bG ++ tm) O ρ σ H r v):iL K Z tm O ρ σ H r v:=by
 cases r with
 | vw t=>exact ⟨h.1.ur fun p hp=>h.1.nz p (k8 _ hp),h.2⟩
 | fr t=>obtain ⟨a,e,I,q⟩:=h; exact ⟨a,e,I.ur fun p hp=>I.nz p (k8 _ hp),q⟩
def Wk (K:PySem.W.Frag) (J:It) (bG:List (T×V)) (ts:List T):Prop:=∀ H A,(∀ a∈A,H a≠none)→(∀ p∈bG,At K H A p.1 p.2)→∀ i:Nat,
 (i < ts.length→J.go i H)∧(ts.length=i→J.stop i H)∧∀ t,ts[i]?=some t→∀ x H',J.Mw i H x H'→aJ H H'∧At K H' A t x
abbrev FI:=En→(List T→Prop)→Prop
def lI (X:Cx) (Z:Zc) (tm:List (T×V)) (f:FI):TI:=fun σ H R=>∃ ρ O q,az X.K Z tm O ρ σ H∧f ρ q∧∀ ts,q ts→∀ J H' bG,aJ H H'→(∀ p∈bG,At X.K H' (av Z O) p.1 p.2)→Wk X.K J bG ts→R J H'
def VI (X:Cx) (Z:Zc) (tg iter:Expr) (f:FI):Prop:=Bx fun tm=>PI X tg iter (lI X Z tm f)
instance {X:Cx} {Z:Zc} {tg iter:Expr} {f:FI}:CoeFun (VI X Z tg iter f) fun _=>∀ tm,PI X tg iter (lI X Z tm f):=⟨fun h=>Bx.h h⟩
theorem PI.weak {X:Cx} {tg e:Expr} {t t':TI} (h:PI X tg e t) (hw:∀ σ H R,t' σ H R→t σ H R):PI X tg e t':=fun pins s σ H R I q=>h pins s σ H R I (hw _ _ _ q)
theorem PG.weak {X:Cx} {tg:Expr} {t t':TG} (h:PG X tg t) (hw:∀ v σ H Q,t' v σ H Q→t v σ H Q):PG X tg t':=fun pins s σ H v u Q I r q=>h pins s σ H v u Q I r (hw _ _ _ _ q)
theorem Bt.weak {X:Cx} {tg:List Expr} {t t':ES} (h:Bt X tg t) (hw:∀ v σ H Q,t' v σ H Q→t v σ H Q):Bt X tg t':=fun pins s σ H v u Q I r q=>h pins s σ H v u Q I r (hw _ _ _ _ q)
def S' (K:PySem.W.Frag) (tl:TE):TI:=fun σ H R=>tl σ H fun x H1=>(∃ a,x = .ref a∧(∃ xs,eI K H1 a xs)∧R (R' K a) H1)∨(∃ a,x = .ref a∧(∃ xs,dw K H1 a xs)∧R (Sa K a) H1)∨∃ z,x = .str z∧R (QX z) H1
section
variable {X:Cx} {Z:Zc} {tg:Expr}
theorem Ks {l:Expr} {tl:TE} (hl:PE X l tl):PI X tg l (S' X.K tl):=by
 intro pins s σ H R I h
 refine bT (hl pins s σ H _ I h) fun v s1 ⟨x,H1,I1,r1,q1⟩=>?_
 rcases q1 with ⟨a,e,hq,q⟩ | ⟨a,e,hq,q⟩ | ⟨z,e,q⟩
 · subst e
   cases r1
   obtain ⟨xs,hq⟩:=hq
   obtain ⟨aK,rv,p,hz⟩:=I1.list hq
   refine wpAny_pyIter_list p.isList ?_
   refine ⟨s1.heap.objs.size,[s1.heap.objs.size],_,_,H1,rfl,I1.kept (t':=s1.toks) fun b o e=>cY _ e,ze a _,⟨_,m9 _ rfl,rfl,rfl⟩,fun b hb=>?_,q⟩
   have e:b=s1.heap.objs.size:=by simpa using hb
   subst e
   exact I1.qc (du _) (I1.bC.fresh (du _))
 · subst e
   cases r1
   obtain ⟨xs,hq⟩:=hq
   obtain ⟨aK,rv,p,hz⟩:=I1.tuple hq
   refine wpAny_pyIter_tuple (show s1.heap.IsTuple a aK.toArray from p) ?_
   refine ⟨s1.heap.objs.size,[s1.heap.objs.size],_,_,H1,rfl,I1.kept (t':=s1.toks) fun b o e=>cY _ e,vU a _,⟨_,m9 _ rfl,rfl,rfl⟩,fun b hb=>?_,q⟩
   have e:b=s1.heap.objs.size:=by simpa using hb
   subst e
   exact I1.qc (du _) (I1.bC.fresh (du _))
 · subst e
   obtain ⟨t,rfl⟩:=r1
   refine wpAny_pyIter_strU ?_
   have I2:Inv X pins σ H1 { s1 with heap:=s1.heap.push { cls:=.type (strIterType z),data:=.fields #[.str z t,.int 0 0] } }:=I1.kept (t':=s1.toks) fun b o e=>cY _ e
   refine ⟨s1.heap.objs.size,[s1.heap.objs.size],_,_,H1,rfl,I2,BO z t _,⟨_,m9 _ rfl,rfl,rfl⟩,fun b hb=>?_,q⟩
   have e:b=s1.heap.objs.size:=by simpa using hb
   subst e
   exact I1.qc (du _) I1.fresh
def Ta (f:FE):FI:=fun ρ Q=>f ρ fun t=>match t with
 | .lst ts=>Q ts
 | .tup ts=>Q ts
 | .str z=>Q (z.cps.toList.map fun c=>.str ⟨#[c]⟩)
 | _=>False
theorem FJ {K:PySem.W.Frag} {a:Addr} {ts:List T}:Wk K (R' K a) [(.lst ts,.ref a)] ts:=fun H A hA h i=>by
 have h:=h _ jz
 simp only [At] at h
 obtain ⟨b,vs,e,l,q⟩:=h
 cases e
 have hl:=q.length
 refine ⟨fun hi=>⟨vs,vs[i]'(by omega),l.sq,by simp⟩,fun hi=>⟨vs,l.sq,by omega⟩,fun t ht x H' y=>?_⟩
 obtain ⟨rfl,y⟩:=y
 obtain ⟨v,e1,e2⟩:=q.get ht
 have:=y vs l.sq
 rw [e1] at this
 cases this
 exact ⟨aJ.refl _,e2⟩
theorem Kt {K:PySem.W.Frag} {a:Addr} {ts:List T}:Wk K (Sa K a) [(.tup ts,.ref a)] ts:=fun H A hA h i=>by
 have h:=h _ jz
 simp only [At] at h
 obtain ⟨b,vs,e,l,q⟩:=h
 cases e
 have hl:=q.length
 refine ⟨fun hi=>⟨vs,vs[i]'(by omega),l,by simp⟩,fun hi=>⟨vs,l,by omega⟩,fun t ht x H' y=>?_⟩
 obtain ⟨rfl,y⟩:=y
 obtain ⟨v,e1,e2⟩:=q.get ht
 have:=y vs l
 rw [e1] at this
 cases this
 exact ⟨aJ.refl _,e2⟩
theorem Ku {K:PySem.W.Frag} {z:Str}:Wk K (QX z) [] (z.cps.toList.map fun c=>T.str ⟨#[c]⟩):=fun H A hA h i=>by
 refine ⟨fun hi=>by rw [b_,Mo] at hi; exact hi,fun hi=>by rw [b_,Mo] at hi; exact Nat.le_of_eq hi,fun t ht x H' y=>?_⟩
 obtain ⟨rfl,c,hc,rfl⟩:=y
 rw [k9,Array.getElem?_toList,hc] at ht
 cases ht
 exact ⟨aJ.refl _,bZ⟩
theorem ly {l:Expr} {f:FE} (h:VE X Z l f):VI X Z tg l (Ta f):=.mk fun tm=>PI.weak (Ks (h tm)) fun σ H R ⟨ρ,O,q,I,hf,k⟩=>⟨ρ,O,_,I,hf,fun t ht v H' s a=>by
 split at ht
 · have a0:=a
   simp only [At] at a
   obtain ⟨p,vs,rfl,l,_⟩:=a
   exact .inl ⟨p,rfl,⟨vs,l.sq⟩,k _ ht _ H' _ s (fun p hp=>by rw [x6.mp hp]; exact a0) FJ⟩
 · have a0:=a
   simp only [At] at a
   obtain ⟨p,vs,rfl,l,_⟩:=a
   exact .inr (.inl ⟨p,rfl,⟨vs,l⟩,k _ ht _ H' _ s (fun p hp=>by rw [x6.mp hp]; exact a0) Kt⟩)
 · have e:=a
   simp only [At] at e
   exact .inr (.inr ⟨_,e,k _ ht _ H' [] s (fun p hp=>nomatch hp) Ku⟩)
 · exact ht.elim⟩
def rangeT (lo:Int) (n:Nat):List T:=(List.range n).map fun i=>T.int (lo+((i:Nat):Int))
theorem B3 {K:PySem.W.Frag} {lo:Int} {n:Nat}:Wk K (QP lo n) [] (rangeT lo n):=fun H A hA h i=>by
 unfold rangeT
 refine ⟨fun hi=>by rw [b_,EG] at hi; exact hi,fun hi=>by rw [b_,EG] at hi; exact Nat.le_of_eq hi,fun t ht x H' y=>?_⟩
 obtain ⟨rfl,rfl⟩:=y
 rw [k9] at ht
 cases e:(List.range n)[i]? with
 | none=>rw [e] at ht; cases ht
 | some j =>
   rw [e] at ht
   have hj:j=i:=by
    have:=gh.mp e
    obtain ⟨h1,h2⟩:=this
    simpa using h2.symm
   subst hj
   cases ht
   exact ⟨aJ.refl _,bE⟩
def Vs (ts:List T) (Q:List T→Prop):Prop:=match ts with
 | [.int j]=>-(2 ^ 62)≤j∧j < 2 ^ 62∧Q (rangeT 0 j.toNat)
 | _=>False
def Kv (g:FA) (p:List T→(List T→Prop)→Prop):FI:=fun ρ Q=>g ρ fun ts=>p ts Q
theorem cW {a:Expr} {g:FE} {p pos:Pos} (hg:Gl X "range") (hm:X.mg "range" = none) (ha:VR X Z a g) (hs:starEach [a] X.env=[(false,eval a X.env)]:=by rfl) :
  VI X Z tg (.Call (.Name "range" p) [a] [] pos) (Kv (uo g BU) Vs):=.mk fun tm=>PI.weak (zf hg hm ((ak ha aw hs) tm) hs) fun σ H R ⟨ρ,O,q,I,hf,k⟩=>⟨ρ,O,_,I,hf,fun ts gE vs H' s a=>by
 unfold Vs at gE
 split at gE
 · obtain ⟨v,rfl,a1⟩:=cA a
   exact ⟨_,by rw [a1.int],gE.1,gE.2.1,k _ gE.2.2 _ H' [] s (fun p hp=>nomatch hp) B3⟩
 · exact gE.elim⟩
abbrev FG:=T→En→(En→Prop)→Prop
abbrev FK:=List T→En→(En→Prop)→Prop
def lG (X:Cx) (Z:Zc) (tm:List (T×V)) (is:List Nat) (h:FG):TG:=fun v σ H Q=>∃ ρ O t q,az X.K Z tm O ρ σ H∧At X.K H (av Z O) t v∧h t ρ q∧∀ ρ',q ρ'→∀ O' σ',az X.K Z tm O' ρ' σ' H→(∀ a∈roots O',a∈roots O)→(∀ (j:Nat),j∉is→O'[j]?=O[j]?)→σ'.length=σ.length→(∀ (j:Nat),j∉is→σ'[j]?=σ[j]?)→Q σ' H
def Vt (X:Cx) (Z:Zc) (tm:List (T×V)) (is:List Nat) (h:FK):ES:=fun vs σ H Q=>∃ ρ O ts q,az X.K Z tm O ρ σ H∧aG X.K H (av Z O) ts vs∧h ts ρ q∧∀ ρ',q ρ'→∀ O' σ',az X.K Z tm O' ρ' σ' H→(∀ a∈roots O',a∈roots O)→(∀ (j:Nat),j∉is→O'[j]?=O[j]?)→σ'.length=σ.length→(∀ (j:Nat),j∉is→σ'[j]?=σ[j]?)→Q σ' H
def VG (X:Cx) (Z:Zc) (tg:Expr) (is:List Nat) (h:FG):Prop:=Bx fun tm=>PG X tg (lG X Z tm is h)
instance {X:Cx} {Z:Zc} {tg:Expr} {is:List Nat} {h:FG}:CoeFun (VG X Z tg is h) fun _=>∀ tm,PG X tg (lG X Z tm is h):=⟨fun h=>Bx.h h⟩
def Oh (X:Cx) (Z:Zc) (Q0:List Expr) (is:List Nat) (h:FK):Prop:=Bx fun tm=>Bt X Q0 (Vt X Z tm is h)
instance {X:Cx} {Z:Zc} {Q0:List Expr} {is:List Nat} {h:FK}:CoeFun (Oh X Z Q0 is h) fun _=>∀ tm,Bt X Q0 (Vt X Z tm is h):=⟨fun h=>Bx.h h⟩
def hName (i:Nat):FG:=fun t ρ Q=>Q (ρ.set i (some (t,false)))
theorem aW {i:Nat} {x:Str} {pos:Pos} (hN:X.N.Nodup) (hi:X.N[i]?=some x) (hx:Loc X.env.scope x) (hp:aY Z i) (hf:X.fn x=true∨X.env.scope.names.lookup x=some .local:=by first | exact .inl rfl | exact .inr rfl | assumption) :
  VG X Z (.Name x pos) [i] (hName i):=.mk fun tm=>PG.weak (ET hN hi hx hf) fun v σ H Q ⟨ρ,O,t,q,I,a,h,k⟩ =>
 k _ h _ _ (I.put hp a) (cb i) (fun j hj=>t7 (fun e=>hj (by simp [e]))) (by simp) fun j hj=>t7 (fun e=>hj (by simp [e]))
def Tb:FK:=fun ts ρ Q=>ts=[]∧Q ρ
def HY (h:FG) (hs:FK):FK:=fun ts ρ Q=>match ts with
 | t :: r=>h t ρ fun ρ'=>hs r ρ' Q
 | []=>False
def Oi (n:Nat) (h:FK):FG:=fun t ρ Q=>match t with
 | .tup ts=>ts.length=n∧h ts ρ Q
 | _=>False
theorem eA:Oh X Z [] [] Tb:=.mk fun tm=>Bt.weak EU fun vs σ H Q ⟨ρ,O,ts,q,I,a,h,k⟩=>by
 obtain ⟨rfl,h⟩:=h
 have e:vs=[]:=by simpa only [aG] using a
 exact ⟨e,k _ h O σ I (fun _ z=>z) (fun _ _=>rfl) rfl fun _ _=>rfl⟩
theorem bx {e:Expr} {es:List Expr} {is js:List Nat} {h:FG} {hs:FK} (h1:VG X Z e is h) (h2:Oh X Z es js hs)
  (WR:(assignEach (e :: es) X.env).map (·.2)=assign e X.env :: (assignEach es X.env).map (·.2):=by rfl):Oh X Z (e :: es) (is ++ js) (HY h hs):=.mk fun tm=>Bt.weak (Bu (h1 tm) (h2 tm) WR) fun vs σ H Q ⟨ρ,O,ts,q,I,a,hh,k⟩=>by
 unfold HY at hh
 split at hh
 · simp only [aG] at a
   obtain ⟨v,r,rfl,a1,a2⟩:=a
   refine ⟨v,r,rfl,ρ,O,_,_,I,a1,hh,fun ρ' hρ O' σ' I' ro eo l e=>⟨ρ',O',_,q,I',a2.bq fun b hb=>?_,hρ,fun ρ2 h2 O2 σ2 I2 WS Tc l2 e2=>k ρ2 h2 O2 σ2 I2 (fun a z=>ro a (WS a z)) (fun j hj=>?_) (l2.trans l) fun j hj=>?_⟩⟩
   · rcases jA.mp hb with z | z
     · exact mz _ (ro b z)
     · exact k8 _ z
   · rw [jA,not_or] at hj
     exact (Tc j hj.2).trans (eo j hj.1)
   · rw [jA,not_or] at hj
     exact (e2 j hj.2).trans (e j hj.1)
 · exact hh.elim
theorem gO {es:List Expr} {k:Nat} {is:List Nat} {h:FK} {n:Nat} {pos:Pos} (hc:X.calm=true) (hh:Oh X Z es is h)
  (hn:(assignEach es X.env).length=n:=by rfl) (EV:(assignEach es X.env).findIdx? (·.1)=none:=by rfl):VG X Z (.Tuple es k pos) is (Oi n h):=.mk fun tm=>PG.weak (Jq hc (hh tm) hn EV) fun v σ H Q ⟨ρ,O,t,q,I,a,h',kk⟩=>by
 unfold Oi at h'
 split at h'
 · simp only [At] at a
   obtain ⟨p,vs,rfl,s,a⟩:=a
   exact ⟨p,vs,rfl,s,a.length.trans h'.1,ρ,O,_,q,I,a,h'.2,kk⟩
 · exact h'.elim
def Td (f:FE) (h:FG):FS:=fun d ρ=>f ρ fun t=>h t ρ d.nx
theorem B4 {tg e:Expr} {f:FE} {is:List Nat} {h:FG} {pos:Pos} (he:VE X Z e f) (hg:VG X Z tg is h) (hs:swapsWithSole [tg] e pos.line X.env=pure false:=by rfl) (hw:swappedStores [tg] e X.env=pure none:=by rfl)
  (h1:(assignEach [tg] X.env).map (·.2)=[assign tg X.env]:=by rfl):VS X Z (.Assign [tg] e pos) (Td f h):=.mk fun tm=>PS.weak (Bv (he tm) (hg tm) hs hw h1) fun D σ H ⟨ρ,O,d,I,q,F⟩ =>
 ⟨ρ,O,_,I,q,fun t ht v H' s a=>⟨ρ,O,t,_,I.same s,a,ht,fun ρ' hρ O' σ' I' _ _ _ _=>F.nx O' ρ' σ' H' I' hρ⟩⟩
def q_ (ts:List T) (h:FG) (g:FS):FS:=fun d ρ=>∃ Pv:Nat→En→Prop,Pv 0 ρ∧(∀ (i:Nat) t ρ',ts[i]?=some t→Pv i ρ'→h t ρ' fun ρ2=>g { nx:=Pv (i+1),ct:=Pv (i+1),bk:=d.nx,rt:=d.rt } ρ2)∧∀ ρ',Pv ts.length ρ'→d.nx ρ'
def Te (f:FI) (h:FG) (g:FS):FS:=fun d ρ=>f ρ fun ts=>q_ ts h g d ρ
theorem cF {iter:Expr} {body:List Stmt} {f:FI} {is:List Nat} {h:FG} {g:FS} {pos:Pos} (hp:PassesOwn (model X.prog X.w) X.A X.env X.xe) (hc:X.calm=true) (hi:VI X Z tg iter f) (hg:VG X Z tg is h) (hb:ky X Z body g)
  (hs:∀ x,foldedSetIterable iter X.env x=pure x:=by intro _; rfl):VS X Z (.For tg iter body [] pos) (Te f h g):=by
 refine .mk fun tm pins s σ H D I0 hw=>?_
 obtain ⟨ρ,O,d,I,q,F⟩:=hw
 refine Jt (wi:=lI X Z tm f) (g:=fun v σ H Q=>∃ bG,lG X Z (bG ++ tm) is h v σ H Q) (tb:=fun D σ H=>∃ bG,lS X Z (bG ++ tm) g D σ H) hp hc (hi tm) (fun pins s σ H v u Q I r ⟨bG,z⟩=>hg (bG ++ tm) pins s σ H v u Q I r z) (fun pins s σ H D I ⟨bG,z⟩=>hb (bG ++ tm) pins s σ H D I z) hs pins s σ H D I0 ?_
 refine ⟨ρ,O,_,I,q,fun ts gE J H' bG s a wk=>?_⟩
 obtain ⟨Pv,p0,step,fin⟩:=gE
 have J0:az X.K Z (bG ++ tm) O ρ σ H':=(I.same s).ur fun p hp=>by
  rcases jA.mp hp with z | z
  · exact a p z
  · exact (I.same s).nz p z
 refine ⟨fun i m σ H=>m=ts.length - i∧i≤ts.length∧∃ ρ O,az X.K Z (bG ++ tm) O ρ σ H∧Pv i ρ,⟨ts.length,by simp,kd _,ρ,O,J0,p0⟩,?_⟩
 rintro i m σ1 H1 ⟨rfl,hi,ρ1,O1,I1,p1⟩
 obtain ⟨w1,w2,w3⟩:=wk H1 (av Z O1) I1.Kb (fun p hp=>I1.nz p (mz _ hp)) i
 have un:∀ {O:List (Option Addr)} {ρ:En} {σ:St} {H:Hp},az X.K Z (bG ++ tm) O ρ σ H→az X.K Z tm O ρ σ H:=fun I=>I.ur fun p hp=>I.nz p (k8 _ hp)
 by_cases fN:i < ts.length
 · refine .inr ⟨w1 fN,fun σ' H'=>∃ ρ O,az X.K Z (bG ++ tm) O ρ σ' H'∧Pv (i+1) ρ,fun σ' H' ⟨ρ',O',I',p'⟩=>⟨ts.length - (i+1),by omega,rfl,fN,ρ',O',I',p'⟩,fun x H2 y=>?_⟩
   have e:ts[i]?=some ts[i]:=by simp [fN]
   obtain ⟨s2,a2⟩:=w3 ts[i] e x H2 y
   refine ⟨bG,ρ1,O1,ts[i],_,I1.same s2,a2,step i _ ρ1 e p1,fun ρ2 h2 O2 σ2 I2 _ _ _ _=>⟨bG,ρ2,O2,_,I2,h2,?_⟩⟩
   exact ⟨fun O ρ σ H I p=>⟨ρ,O,I,p⟩,fun O ρ σ H r v z p=>F.rt O ρ σ H r v z.ur p,fun O ρ σ H I p=>F.nx O ρ σ H (un I) p,fun O ρ σ H I p=>⟨ρ,O,I,p⟩⟩
 · have e:i=ts.length:=by omega
   subst e
   exact .inl ⟨w2 (rfl),F.nx O1 ρ1 σ1 H1 (un I1) (fin ρ1 p1)⟩
end
theorem dD (O:List (Option Addr)) (n:Nat):roots (O ++ List.replicate n none)=roots O:=by
 unfold roots
 rw [List.filterMap_append]
 have:(List.replicate n (none:Option Addr)).filterMap id=[]:=by
  induction n with
  | zero=>rfl
  | succ n ih=>rw [List.replicate_succ,mZ]; exact ih
 rw [this,Eh]
theorem az.longer {K:PySem.W.Frag} {Z:Zc} {tm:List (T×V)} {O:List (Option Addr)} {ρ:En} {σ:St} {H:Hp} (I:az K Z tm O ρ σ H) (n:Nat) {τ:St} (hτ:τ.length=n) :
  az K Z tm (O ++ List.replicate n none) (ρ ++ List.replicate n none) (σ ++ τ) H:=by
 have ea:av Z (O ++ List.replicate n none)=av Z O:=by unfold av; rw [dD]
 refine ⟨by simp [I.lσ,hτ],by simp [I.lO],fun i e h=>?_,by rw [dD]; exact I.nd,fun a h=>I.own a (by rw [dD] at h; exact h),fun p hp=>?_,I.ox,I.keep,fun p hp=>by rw [ea]; exact I.nz p hp⟩
 · rw [ea]
   by_cases hi:i < ρ.length
   · rw [vI hi] at h
     obtain ⟨o,s,h1,h2,h3⟩:=I.sl i e h
     exact ⟨o,s,by rw [vI (by rw [I.lO]; exact hi)]; exact h1,by rw [vI (by rw [I.lσ]; exact hi)]; exact h2,h3⟩
   · rw [EE (by omega),IQ] at h
     split at h
     · rename_i hl
       cases h
       refine ⟨none,τ[i - σ.length]'(by rw [I.lσ,hτ]; exact hl),?_,?_,rfl⟩
       · rw [EE (by rw [I.lO]; omega),IQ,if_pos (by rw [I.lO]; exact hl)]
       · rw [EE (by rw [I.lσ]; omega)]; simp
     · cases h
 · have:=I.par p hp
   have hl:=(gh.mp this).1
   rw [vI hl]; exact this
theorem az.Kw {K:PySem.W.Frag} {Z:Zc} {tm:List (T×V)} {O:List (Option Addr)} {ρ:En} {σ:St} {H:Hp} {a:Addr} {u o:HO} (I:az K (Z.ex a) tm O ρ σ H) (hu:H a=some u) (hm:uj u=true) (h0:Z.H0 a=none):az K (Z.ex a) tm O ρ σ (upd H a o):=by
 have Fp:a∈av (Z.ex a) O:=k8 _ jz
 have nr:∀ b∈roots O,b≠a:=fun b hb e=>(I.own b hb).2.1 (by rw [e]; exact jz)
 refine ⟨I.lσ,I.lO,fun i e h=>?_,I.nd,fun b hb=>?_,I.par,fun b hb=>?_,fun b o' e n=>?_,fun p hp=>(I.nz p hp).wrote Fp hu hm⟩
 · obtain ⟨o',s,h1,h2,h3⟩:=I.sl i e h
   refine ⟨o',s,h1,h2,h3.map (fun _ _ q=>q.wrote Fp hu hm) fun b t e q=>?_⟩
   subst e
   exact q.map (aH (nr b (aN.mpr (mY h1)))) fun _ _ z=>z.wrote Fp hu hm
 · obtain ⟨q1,q2,v,e,m⟩:=I.own b hb
   exact ⟨q1,q2,v,by rw [aH (nr b hb)]; exact e,m⟩
 · by_cases e:b=a
   · subst e; rw [aU]; simp
   · rw [aH e]; exact I.ox b hb
 · have:b≠a:=fun e'=>by
    subst e'
    have e2:Z.H0 b=some o':=e
    rw [h0] at e2; cases e2
   rw [aH this]; exact I.keep b o' e n
def d8 (h:FG) (fc:FB) (fe:FE) (ρ:En):List T→(List T→Prop)→Prop
 | [],Q=>Q []
 | t :: ts,Q=>h t ρ fun ρ2=>fc ρ2 fun b=>if b=true then fe ρ2 fun u=>d8 h fc fe ρ ts fun us=>Q (u :: us) else d8 h fc fe ρ ts Q
def yu (n:Nat) (is:List Nat) (f:FI) (h:FG) (fc:FB) (fe:FE):FP:=fun ρ Q=>(is.all fun j=>decide (ρ.length≤j))=true∧f ρ fun ts=>ts.length≤sizeLine∧d8 h fc fe (ρ ++ List.replicate n none) ts fun us=>Q (.fr (.lst us))
def Oj (X:Cx) (Z:Zc) (ifs:List Expr) (f:FB):Prop:=Bx fun tm=>Ep X ifs (lB X Z tm f)
instance {X:Cx} {Z:Zc} {ifs:List Expr} {f:FB}:CoeFun (Oj X Z ifs f) fun _=>∀ tm,Ep X ifs (lB X Z tm f):=⟨fun h=>Bx.h h⟩
def Kx:FB:=fun _ Q=>Q true
theorem Ep.weak {X:Cx} {e:List Expr} {t t':TT} (h:Ep X e t) (hw:∀ σ H Q,t' σ H Q→t σ H Q):Ep X e t':=fun pins s σ H Q I q=>h pins s σ H Q I (hw _ _ _ q)
section
variable {X:Cx} {Z:Zc}
theorem kz:Oj X Z [] Kx:=.mk fun tm=>Ep.weak Ff fun σ H Q ⟨ρ,O,q,I,h,k⟩=>k true h H (aJ.refl H)
def cG (X:Cx) (Z:Zc) (tm:List (T×V)) (is:List Nat) (h:FG):TG:=fun v σ H Q=>∃ D bG,lG X (Z.ex D) (bG ++ tm) is h v σ H Q
def cB (X:Cx) (Z:Zc) (tm:List (T×V)) (f:FB):TT:=fun σ H Q=>∃ D bG,lB X (Z.ex D) (bG ++ tm) f σ H Q
def cE (X:Cx) (Z:Zc) (tm:List (T×V)) (f:FE):TE:=fun σ H Q=>∃ D bG,lE X (Z.ex D) (bG ++ tm) f σ H Q
theorem Kz {K:PySem.W.Frag} {Z:Zc} {tm bG:List (T×V)} {n:Nat} {O:List (Option Addr)} {ρ:En} {σ:St} {H1:Hp} {D:Addr} {J:It} {ts:List T} {h:FG} {fc:FB} {fe:FE} {is:List Nat} {q:Rt→Prop} {Q:VK} (X:Cx) (hK:X.K=K)
  (I:az K Z (bG ++ tm) O ρ σ H1) (hD:H1 D=none) (wk:Wk K J bG ts) (hz:ts.length≤sizeLine) (Q1:∀ j∈is,ρ.length≤j)
  (hw:d8 h fc fe (ρ ++ List.replicate n none) ts fun us=>q (.fr (.lst us)))
  (k:∀ r,q r→∀ v H',aJ H1 H'→iL K Z tm O ρ σ H' r v→Q v H') :
  uf J (cG X Z tm is h) (cB X Z tm fc) (cE X Z tm fe) n σ D (Q (.ref D)) H1:=by
 subst hK
 obtain ⟨n1,n2,n3⟩:=I.fresh hD
 refine ⟨fun i m acc H2=>m=ts.length - i∧i≤ts.length∧aJ H1 H2∧H2 D=some (.lst acc)∧∃ us,aG X.K H2 (av (Z.ex D) O) us acc∧acc.length≤i∧az X.K (Z.ex D) (bG ++ tm) O ρ σ H2∧d8 h fc fe (ρ ++ List.replicate n none) (ts.drop i) fun r=>q (.fr (.lst (us ++ r))),
  ⟨ts.length,by simp,kd _,aS hD,aU,[],aG.nil,kd _,I.new hD rfl,by simpa using hw⟩,?_⟩
 rintro i m acc H2 ⟨rfl,hi,s2,Fj,us,a2,hl,I2,w2⟩
 refine ⟨Fj,?_⟩
 obtain ⟨w1,WU,w3⟩:=wk H2 (av (Z.ex D) O) I2.Kb (fun p hp=>I2.nz p (mz _ hp)) i
 by_cases fN:i < ts.length
 · refine .inr ⟨w1 fN,by omega,fun x H3 y=>?_⟩
   have e:ts[i]?=some ts[i]:=by simp [fN]
   obtain ⟨s3,a3⟩:=w3 ts[i] e x H3 y
   rw [RA fN] at w2
   have I3:=(I2.same s3).longer n (τ:=List.replicate n none) (by simp)
   have ea:av (Z.ex D) (O ++ List.replicate n none)=av (Z.ex D) O:=by unfold av; rw [dD]
   refine ⟨D,bG,_,_,ts[i],_,I3,by rw [ea]; exact a3,w2,fun ρ4 WV O4 σ4 I4 Zo WW l4 e4=>⟨⟨?_,fun j v hj=>?_⟩,D,bG,ρ4,O4,_,I4,WV,fun b hb H5 s5=>?_⟩⟩
   · rw [l4]; simp
   · have Ol:=(gh.mp hj).1
     have:j∉is:=fun z=>by have:=Q1 j z; have:=I.lσ; omega
     rw [e4 j this,vI Ol]; exact hj
   · have S5:=(s2.trans s3).trans s5
     have J5:=(I2.same s3).same s5
     cases b with
     | true =>
       rw [if_pos rfl] at hb
       refine N1 ⟨D,bG,ρ4,O4,_,I4.same s5,hb,fun u hu y H6 s6 a6=>?_⟩
       have Tf:=s6 _ _ (s5 _ _ (s3 _ _ Fj))
       refine ⟨Tf,ts.length - (i+1),by omega,rfl,fN,fun b o e=>?_,aU,us ++ [u],?_,by simp; omega,(J5.same s6).Kw Tf rfl n3,?_⟩
       · rw [aH (aV e hD)]; exact s6 _ _ (S5 _ _ e)
       · have Fp:D∈av (Z.ex D) O:=k8 _ jz
         have WX:At X.K H6 (av (Z.ex D) O) u y:=a6.bq fun b hb=>by
          rcases jA.mp hb with z | z
          · obtain ⟨j,hj⟩:=MZ.mp (aN.mp z)
            have Ol:=(gh.mp hj).1
            have nj:j∉is:=fun z=>by have:=Q1 j z; have:=I.lO; omega
            have:=WW j nj
            rw [vI Ol,hj] at this
            exact mz _ (aN.mpr (mY this))
          · exact k8 _ z
         exact aG.wrote Fp Tf rfl ((((a2.same s3).same s5).same s6).append (aG.cons WX aG.nil))
       · have e2:∀ r,(us ++ [u]) ++ r=us ++ (u :: r):=fun r=>by simp
         simp only [e2]
         exact hu
     | false =>
       rw [if_neg nL] at hb
       exact N0 ⟨ts.length - (i+1),by omega,rfl,fN,S5,s5 _ _ (s3 _ _ Fj),us,(a2.same s3).same s5,by omega,J5,hb⟩
 · have e:i=ts.length:=by omega
   subst e
   refine .inl ⟨WU (rfl),?_⟩
   rw [List.drop_length] at w2
   simp only [d8,Eh] at w2
   refine k _ w2 _ H2 s2 ⟨D,rfl,I2.ur fun p hp=>I2.nz p (k8 _ hp),⟨acc,Fj,a2⟩,n3,n2⟩
theorem yw {tm:List (T×V)} {n:Nat} {is:List Nat} {f:FI} {h:FG} {fc:FB} {fe:FE} {σ:St} {H:Hp} {Q:VK} (hq:lP X Z tm (yu n is f h fc fe) σ H Q):BM n (lI X Z tm f) (cG X Z tm is h) (cB X Z tm fc) (cE X Z tm fe) σ H Q:=by
 obtain ⟨ρ,O,q,I,⟨Q1,hf⟩,k⟩:=hq
 refine ⟨ρ,O,_,I,hf,fun ts gE J H' bG s a wk D hD=>?_⟩
 have I':az X.K Z (bG ++ tm) O ρ σ H':=(I.same s).ur fun p hp=>by
  rcases jA.mp hp with z | z
  · exact a p z
  · exact (I.same s).nz p z
 refine Kz X rfl I' hD wk gE.1 (fun j hj=>?_) gE.2 fun r hr v H2 s2 z=>k r hr v H2 (s.trans s2) z
 have:=y8.mp Q1 j hj
 exact of_decide_eq_true this
variable {ts:List Str} {sc:Scope} {elt iter tg:Expr} {ifs:List Expr} {pos:Pos} {f:FI} {h:FG} {fc:FB} {fe:FE} {is:List Nat}
theorem nA (hc:X.calm=true) (hS:jN X.N ts X.env.scope sc=true) (hi:VI X Z tg iter f) (hg:∀ D cl C fp s H,VG (bo X ts sc cl C fp s H) (Z.ex D) tg is h) (ht:∀ D cl C fp s H,Oj (bo X ts sc cl C fp s H) (Z.ex D) ifs fc)
  (he:∀ D cl C fp s H,VE (bo X ts sc cl C fp s H) (Z.ex D) elt fe) (hs:∀ x,foldedSetIterable iter X.env x=pure x:=by intro _; rfl):VP X Z (.ListComp elt [⟨tg,iter,ifs,0⟩] sc pos) (yu ts.length is f h fc fe):=.mk fun tm =>
 PE.weak (Fh hc hS (hi tm) (fun cl C fp s H pins s' σ H' v u Q I r ⟨D,bG,z⟩=>hg D cl C fp s H (bG ++ tm) pins s' σ H' v u Q I r z) (fun cl C fp s H pins s' σ H' Q I ⟨D,bG,z⟩=>ht D cl C fp s H (bG ++ tm) pins s' σ H' Q I z)
  (fun cl C fp s H pins s' σ H' Q I ⟨D,bG,z⟩=>he D cl C fp s H (bG ++ tm) pins s' σ H' Q I z) hs) fun σ H Q hq=>yw hq
theorem uu {i:Nat} {y:Str} {py ui:Pos} (hN:X.N.Nodup) (hy:X.N[i]?=some y) (hx:Loc X.env.scope y) (hc:X.calm=true) (hS:jN X.N ts X.env.scope sc=true) (hi:VI X Z tg iter f) (hg:∀ D cl C fp s H,VG (bo X ts sc cl C fp s H) (Z.ex D) tg is h)
  (ht:∀ D cl C fp s H,Oj (bo X ts sc cl C fp s H) (Z.ex D) ifs fc) (he:∀ D cl C fp s H,VE (bo X ts sc cl C fp s H) (Z.ex D) elt fe)
  (N6:swapsWith (.ListComp elt [⟨tg,iter,ifs,0⟩] sc pos) (some (.Name y py)) ui.line X.env=pure true)
  (hs:∀ x,foldedSetIterable iter X.env x=pure x) (hf:X.fn y=true∨X.env.scope.names.lookup y=some .local) (tm:List (T×V)) :
  PS X (.Assign [.Name y py] (.ListComp elt [⟨tg,iter,ifs,0⟩] sc pos) ui) (EW (lP X Z tm (yu ts.length is f h fc fe)) (ig i)) :=
 PS.weak (Fi hN hy hx hc hS (hi tm) (fun cl C fp s H pins s' σ H' v u Q I r ⟨D,bG,z⟩=>hg D cl C fp s H (bG ++ tm) pins s' σ H' v u Q I r z) (fun cl C fp s H pins s' σ H' Q I ⟨D,bG,z⟩=>ht D cl C fp s H (bG ++ tm) pins s' σ H' Q I z)
  (fun cl C fp s H pins s' σ H' Q I ⟨D,bG,z⟩=>he D cl C fp s H (bG ++ tm) pins s' σ H' Q I z) N6 hs hf) fun D σ H hq=>yw hq
theorem FL {i:Nat} {y:Str} {py ui:Pos} (hN:X.N.Nodup) (hy:X.N[i]?=some y) (hx:Loc X.env.scope y) (hc:X.calm=true) (hS:jN X.N ts X.env.scope sc=true) (hi:VI X Z tg iter f) (hg:∀ D cl C fp s H,VG (bo X ts sc cl C fp s H) (Z.ex D) tg is h)
  (ht:∀ D cl C fp s H,Oj (bo X ts sc cl C fp s H) (Z.ex D) ifs fc) (he:∀ D cl C fp s H,VE (bo X ts sc cl C fp s H) (Z.ex D) elt fe) (hp:aY Z i)
  (N6:swapsWith (.ListComp elt [⟨tg,iter,ifs,0⟩] sc pos) (some (.Name y py)) ui.line X.env=pure true:=by rfl)
  (hs:∀ x,foldedSetIterable iter X.env x=pure x:=by intro _; rfl) (hf:X.fn y=true∨X.env.scope.names.lookup y=some .local:=by first | exact .inl rfl | exact .inr rfl | assumption) :
  VS X Z (.Assign [.Name y py] (.ListComp elt [⟨tg,iter,ifs,0⟩] sc pos) ui) (Of i (fX (yu ts.length is f h fc fe))):=.mk fun tm =>
 PS.weak (uu hN hy hx hc hS hi hg ht he N6 hs hf tm) fun D σ H ⟨ρ,O,d,I,q,F⟩=>⟨ρ,O,_,I,q,fun r hr v H' s z=>F.nx _ _ _ H' (z.env.put hp z.at) hr⟩
theorem jf {h:FG} {fc:FB} {fe:FE} {ρ:En} {ts:List T} {Q:List T→Prop} (p:T→Bool) (u:T→T) (step:∀ t∈ts,∀ k:List T→Prop,∀ r:List T→Prop,(if p t=true then r [u t] else r [])→h t ρ fun ρ2=>fc ρ2 fun b=>if b=true then fe ρ2 fun x=>r [x] else r [])
  (hq:Q ((ts.filter p).map u)):d8 h fc fe ρ ts Q:=by
 induction ts generalizing Q with
 | nil=>exact hq
 | cons t ts ih =>
   have st:=step t jz (fun _=>True) (fun l=>match l with
    | [x]=>d8 h fc fe ρ ts fun us=>Q (x :: us)
    | _=>d8 h fc fe ρ ts Q)
   have rest:∀ {Q':List T→Prop},Q' ((ts.filter p).map u)→d8 h fc fe ρ ts Q':=fun hq=>ih (fun t ht=>step t (jc _ ht)) hq
   simp only [d8]
   refine st ?_
   by_cases hp:p t=true
   · rw [if_pos hp]
     refine rest ?_
     rw [List.filter_cons_of_pos hp] at hq
     exact hq
   · rw [if_neg hp]
     refine rest ?_
     rw [List.filter_cons_of_neg hp] at hq
     exact hq
end
def dF (K:PySem.W.Frag) (H:Hp) (A:List Addr):List Bool→List Addr→List T→List V→Prop
 | [],as,ts,vs=>as=[]∧ts=[]∧vs=[]
 | false :: fs,as,ts,vs=>∃ t jS v j',ts=t :: jS∧vs=v :: j'∧At K H A t v∧dF K H A fs as jS j'
 | true :: fs,as,ts,vs=>∃ a rf t jS j',as=a :: rf∧ts=t :: jS∧vs = .ref a :: j'∧cq K H A a t∧dF K H A fs rf jS j'
def Om (K:PySem.W.Frag) (H:Hp) (as Ox:List Addr) (H':Hp) (us:List T):Rt→V→Prop
 | .vw t,v=>At K H' (as ++ Ox) t v∧Paired (fun a u=>cq K H' (as ++ Ox) a u) as us
 | .fr t,v=>∃ b,v = .ref b∧H b=none∧b∉as∧cq K H' (b :: (as ++ Ox)) b t∧Paired (fun a u=>cq K H' (b :: (as ++ Ox)) a u) as us
abbrev GT:=List T→(List T→Rt→Prop)→Prop
def qo (K:PySem.W.Frag) (fs:List Bool) (G:GT):Sp:=fun vs H Q _=>∃ ts as Ox q,as.Nodup∧(∀ a∈as,a∉Ox)∧(∀ a∈Ox,H a≠none)∧dF K H (as ++ Ox) fs as ts vs∧G ts q ∧
 ∀ us r,q us r→∀ v H',(∀ b o,H b=some o→b∉as→H' b=some o)→Om K H as Ox H' us r v→Q v H'
def ro:List Bool→List Addr→List (Option Addr)
 | [],_=>[]
 | false :: fs,as=>none :: ro fs as
 | true :: fs,a :: as=>some a :: ro fs as
 | true :: fs,[]=>none :: ro fs []
def pz:List Bool→List Addr→Nat→List (Nat×Addr)
 | [],_,_=>[]
 | false :: fs,as,k=>pz fs as (k+1)
 | true :: fs,a :: as,k=>(k,a) :: pz fs as (k+1)
 | true :: fs,[],k=>pz fs [] (k+1)
def si:List Bool→List T→En
 | f :: fs,t :: ts=>some (t,f) :: si fs ts
 | _,_=>[]
def lC:List Bool→En→List T
 | [],_=>[]
 | false :: fs,ρ=>lC fs ρ.tail
 | true :: fs,some (t,_) :: ρ=>t :: lC fs ρ
 | true :: fs,ρ=>.bh :: lC fs ρ.tail
section
variable {K:PySem.W.Frag} {H:Hp} {A:List Addr}
theorem eR:∀ {fs:List Bool} {as:List Addr} {ts:List T} {vs:List V},dF K H A fs as ts vs→ts.length=fs.length∧vs.length=fs.length∧(ro fs as).length=fs.length∧(si fs ts).length=fs.length∧roots (ro fs as)=as
 | [],as,ts,vs,h=>by obtain ⟨rfl,rfl,rfl⟩:=h; exact ⟨rfl,rfl,rfl,rfl,rfl⟩
 | false :: fs,as,ts,vs,h=>by
   obtain ⟨t,jS,v,j',rfl,rfl,_,h⟩:=h
   obtain ⟨h1,h2,h3,h4,h5⟩:=eR h
   exact ⟨by simp [h1],by simp [h2],by simp [ro,h3],by simp [si,h4],by simpa [ro,roots] using h5⟩
 | true :: fs,as,ts,vs,h=>by
   obtain ⟨a,rf,t,jS,j',rfl,rfl,rfl,_,h⟩:=h
   obtain ⟨h1,h2,h3,h4,h5⟩:=eR h
   refine ⟨by simp [h1],by simp [h2],by simp [ro,h3],by simp [si,h4],?_⟩
   simp only [ro,roots,mZ,id] at h5 ⊢
   rw [h5]
theorem n_:∀ {fs:List Bool} {as:List Addr} {ts:List T} {vs:List V},dF K H A fs as ts vs→∀ (i:Nat) e,(si fs ts)[i]?=some e→∃ o s,(ro fs as)[i]?=some o∧(vs.map some)[i]?=some s∧nV K H A e o s
 | [],as,ts,vs,h,i,e,he=>by simp [si] at he
 | false :: fs,as,ts,vs,h,i,e,he=>by
   obtain ⟨t,jS,v,j',rfl,rfl,a,h⟩:=h
   cases i with
   | zero=>simp only [si,QB,Option.some.injEq] at he; subst he; exact ⟨none,some v,rfl,rfl,rfl,v,rfl,a⟩
   | succ i=>exact n_ h i e (by simpa [si] using he)
 | true :: fs,as,ts,vs,h,i,e,he=>by
   obtain ⟨a,rf,t,jS,j',rfl,rfl,rfl,r,h⟩:=h
   cases i with
   | zero=>simp only [si,QB,Option.some.injEq] at he; subst he; exact ⟨some a,some (.ref a),rfl,rfl,a,rfl,rfl,r⟩
   | succ i=>exact n_ h i e (by simpa [si] using he)
theorem lF:∀ {fs:List Bool} {as:List Addr} {ts:List T} {vs:List V},dF K H A fs as ts vs→∀ a∈as,∃ t,cq K H A a t
 | [],as,ts,vs,h,a,ha=>by obtain ⟨rfl,rfl,rfl⟩:=h; cases ha
 | false :: fs,as,ts,vs,h,a,ha=>by obtain ⟨t,jS,v,j',rfl,rfl,_,h⟩:=h; exact lF h a ha
 | true :: fs,as,ts,vs,h,a,ha=>by
   obtain ⟨b,rf,t,jS,j',rfl,rfl,rfl,r,h⟩:=h
   rcases dS.mp ha with z | z
   · subst z; exact ⟨t,r⟩
   · exact lF h a z
theorem B5:∀ {fs:List Bool} {as:List Addr} {ts:List T} {vs:List V} (k:Nat),dF K H A fs as ts vs→(pz fs as k).map (·.2)=as∧∀ p∈pz fs as k,k≤p.1∧(ro fs as)[p.1 - k]?=some (some p.2)
 | [],as,ts,vs,k,h=>by obtain ⟨rfl,rfl,rfl⟩:=h; exact ⟨rfl,fun _ z=>nomatch z⟩
 | false :: fs,as,ts,vs,k,h=>by
   obtain ⟨t,jS,v,j',rfl,rfl,_,h⟩:=h
   obtain ⟨h1,h2⟩:=B5 (k+1) h
   refine ⟨h1,fun p hp=>?_⟩
   obtain ⟨l,e⟩:=h2 p hp
   refine ⟨by omega,?_⟩
   have:p.1 - k=(p.1 - (k+1))+1:=by omega
   rw [this]
   simpa [ro] using e
 | true :: fs,as,ts,vs,k,h=>by
   obtain ⟨a,rf,t,jS,j',rfl,rfl,rfl,_,h⟩:=h
   obtain ⟨h1,h2⟩:=B5 (k+1) h
   refine ⟨by simp [pz,h1],fun p hp=>?_⟩
   rcases dS.mp hp with z | z
   · subst z; exact ⟨du _,by simp [ro]⟩
   · obtain ⟨l,e⟩:=h2 p z
     refine ⟨by omega,?_⟩
     have:p.1 - k=(p.1 - (k+1))+1:=by omega
     rw [this]
     simpa [ro] using e
theorem sj {R:Addr→T→Prop} {ρ:En}:∀ {fs:List Bool} {as:List Addr} {ts:List T} {vs:List V} (k:Nat),dF K H A fs as ts vs→(∀ p∈pz fs as k,∃ t,ρ[p.1]?=some (some (t,true))∧R p.2 t)→Paired R as (lC fs (ρ.drop k))
 | [],as,ts,vs,k,h,_=>by obtain ⟨rfl,rfl,rfl⟩:=h; exact .nil
 | false :: fs,as,ts,vs,k,h,q=>by
   obtain ⟨t,jS,v,j',rfl,rfl,_,h⟩:=h
   have:=sj (k+1) h q
   simp only [lC,List.tail_drop]
   exact this
 | true :: fs,as,ts,vs,k,h,q=>by
   obtain ⟨a,rf,t,jS,j',rfl,rfl,rfl,_,h⟩:=h
   have:=sj (ρ:=ρ) (k+1) h fun p hp=>q p (jc _ hp)
   obtain ⟨u,e,r⟩:=q (k,a) jz
   have hk:k < ρ.length:=(gh.mp e).1
   have e2:ρ[k]=some (u,true):=by rw [j_ hk] at e; exact Option.some.inj e
   rw [RA hk,e2]
   exact .cons r this
end
theorem oa {X:Cx} {N:List Str} {fs:List Bool} {as Ox:List Addr} {ts:List T} {vs:List V} {H:Hp} {Q:VK} {q:List T→Rt→Prop} {g:FS} (nd:as.Nodup) (nx:∀ a∈as,a∉Ox) (ox:∀ a∈Ox,H a≠none) (ha:dF X.K H (as ++ Ox) fs as ts vs)
  (kk:∀ us r,q us r→∀ v H',(∀ b o,H b=some o→b∉as→H' b=some o)→Om X.K H as Ox H' us r v→Q v H')
  (hq:g { nx:=fun ρ=>q (lC fs ρ) (.vw .bh),rt:=fun ρ r=>q (lC fs ρ) r } (si fs ts ++ List.replicate (N.length - ts.length) none)) :
  lS X ⟨H,pz fs as 0,Ox⟩ [] g { nx:=fun _ H'=>Q .bh H',rt:=Q } (start N vs) H:=by
 obtain ⟨K,eK⟩:∃ K,K=X.K:=⟨_,rfl⟩
 unfold lS
 rw [← eK] at ha kk ⊢
 obtain ⟨l1,l2,l3,l4,l5⟩:=eR ha
 obtain ⟨p1,p2⟩:=B5 0 ha
 have ea:av ⟨H,pz fs as 0,Ox⟩ (ro fs as ++ List.replicate (N.length - ts.length) none)=as ++ Ox:=by unfold av; rw [dD,l5]
 have WY:∀ H0 P (O:List (Option Addr)),av ⟨H0,P,Ox⟩ O=roots O ++ Ox:=fun _ _ _=>rfl
 have I0:az K ⟨H,pz fs as 0,Ox⟩ [] (ro fs as ++ List.replicate (N.length - ts.length) none) (si fs ts ++ List.replicate (N.length - ts.length) none) (start N vs) H:=by
  refine ⟨?_,?_,fun i e he=>?_,by rw [dD,l5]; exact nd,fun a h=>?_,fun p hp=>?_,ox,fun b o e _=>e,fun p hp=>nomatch hp⟩
  · unfold L2.start; simp [l2,l4,l1]
  · simp [l3,l4]
  · rw [ea]
    by_cases hi:i < fs.length
    · rw [vI (by rw [l4]; exact hi)] at he
      obtain ⟨o,s,h1,h2,h3⟩:=n_ ha i e he
      refine ⟨o,s,by rw [vI (by rw [l3]; exact hi)]; exact h1,?_,h3⟩
      unfold L2.start
      rw [vI (by rw [b_,l2]; exact hi)]; exact h2
    · rw [List.getElem?_append_right (by omega),IQ] at he
      split at he
      · rename_i hl
        cases he
        refine ⟨none,none,?_,?_,rfl⟩
        · rw [EE (by omega),IQ,if_pos (by rw [l3]; rw [l4] at hl; exact hl)]
        · unfold L2.start
          rw [EE (by rw [b_]; omega),IQ,b_,if_pos (by rw [l2]; rw [l4,l1] at hl; exact hl)]
      · cases he
  · rw [dD,l5] at h
    obtain ⟨t,r⟩:=lF ha a h
    exact ⟨.inl (by show a∈(pz fs as 0).map (·.2); rw [p1]; exact h),nx a h,r.mut⟩
  · obtain ⟨_,e⟩:=p2 p hp
    rw [Nat.sub_zero] at e
    rw [vI (gh.mp e).1]; exact e
 have fin:∀ {O:List (Option Addr)} {ρ:En} {σ:St} {H':Hp} {Z':Zc},Z'.P=pz fs as 0→az K Z' [] O ρ σ H'→Paired (fun a u=>cq K H' (av Z' O) a u) as (lC fs ρ):=fun {O ρ σ H' Z'} eP I=>by
  have:=sj (ρ:=ρ) (R:=fun a u=>cq K H' (av Z' O) a u) 0 ha fun p hp=>?_
  · rw [List.drop_zero] at this; exact this
  · have e:=I.par p (by rw [eP]; exact hp)
    have hl:=(gh.mp e).1
    have Nf:p.1 < ρ.length:=by rw [← I.lO]; exact hl
    obtain ⟨o,s',h1,h2,h3⟩:=I.sl p.1 ρ[p.1] (by simp)
    rw [e] at h1
    cases h1
    cases q:ρ[p.1] with
    | none=>rw [q] at h3; cases h3
    | some tb =>
      obtain ⟨t,b⟩:=tb
      rw [q] at h3
      cases b with
      | false=>cases h3.1
      | true =>
        obtain ⟨a',e1,_,r⟩:=h3
        cases e1
        exact ⟨t,by rw [← q]; simp,r⟩
 have keep:∀ {O:List (Option Addr)} {ρ:En} {σ:St} {H':Hp} {Z':Zc},Z'.H0=H→Z'.P=pz fs as 0→az K Z' [] O ρ σ H'→∀ b o,H b=some o→b∉as→H' b=some o:=fun e0 eP I b o e n=>I.keep b o (by rw [e0]; exact e) (by rw [eP,p1]; exact n)
 have sub:∀ {O:List (Option Addr)} {ρ:En} {σ:St} {H':Hp} {Z':Zc},Z'.P=pz fs as 0→az K Z' [] O ρ σ H'→∀ a∈as,a∈roots O:=fun eP I a h=>by
  have:a∈(pz fs as 0).map (·.2):=by rw [p1]; exact h
  obtain ⟨p,hp,rfl⟩:=y_.mp this
  exact aN.mpr (mY (I.par p (by rw [eP]; exact hp)))
 refine ⟨_,_,_,I0,hq,⟨fun O ρ σ H' I h=>?_,fun O ρ σ H' r v z h=>?_,fun _ _ _ _ _ h=>h.elim,fun _ _ _ _ _ h=>h.elim⟩⟩
 · have sb:∀ a∈as ++ Ox,a∈av ⟨H,pz fs as 0,Ox⟩ O:=fun a h=>by
    rcases jA.mp h with h | h
    · exact mz _ (sub rfl I a h)
    · exact k8 _ h
   exact kk _ _ h .bh H' (keep rfl rfl I) ⟨lp,Paired.mE (fin rfl I) fun _ _ q=>q.bq sb⟩
 · cases r with
   | vw t =>
     obtain ⟨I,a⟩:=z
     have sb:∀ a∈as ++ Ox,a∈av ⟨H,pz fs as 0,Ox⟩ O:=fun a h=>by
      rcases jA.mp h with h | h
      · exact mz _ (sub rfl I a h)
      · exact k8 _ h
     exact kk _ _ h v H' (keep rfl rfl I) ⟨a.bq sb,Paired.mE (fin rfl I) fun _ _ q=>q.bq sb⟩
   | fr t =>
     obtain ⟨b,rfl,I,hR,h0,hx⟩:=z
     have sb:∀ a∈b :: (as ++ Ox),a∈av (Zc.ex ⟨H,pz fs as 0,Ox⟩ b) O:=fun a h=>by
      rcases dS.mp h with h | h
      · rw [h]; exact k8 _ jz
      · rcases jA.mp h with h | h
        · exact mz _ (sub rfl I a h)
        · exact k8 _ (jc _ h)
     exact kk _ _ h (.ref b) H' (keep rfl rfl I) ⟨b,rfl,h0,fun hb=>(I.own b (sub rfl I b hb)).2.1 jz,hR.bq sb,Paired.mE (fin rfl I) fun _ _ q=>q.bq sb⟩
section
variable {P:Program} {w:World} {K:PySem.W.Frag} {mg:Str→Option Value} {base:Heap}
theorem Tg {x qual:Str} {st:Stmt} {f:Addr} {fd:FuncData} {N ps:List Str} {k:Nat} {fs:List Bool} {G:GT} (F:Bf K x qual st f fd) (S:aI N ps (aj st)) (Th:fs.length=ps.length)
  (iG:∀ (bD:Value) (A:Around) (outer:List Env) (s:Shared) (H:Hp) (E:XK) (as Ox:List Addr),bp k (A.deeper (envOfC qual (aj st) s.heap.objs.size f bD))→∀ ts q,ts.length=fs.length→G ts q →
    ∃ g,ky (dB iK P w K mg base N qual (aj st) f bD A outer s H E).ni ⟨H,pz fs as 0,Ox⟩ (cf st) g∧g { nx:=fun ρ=>q (lC fs ρ) (.vw .bh),rt:=fun ρ r=>q (lC fs ρ) r } (si fs ts ++ List.replicate (N.length - ts.length) none)) :
  cD P w K mg base iK (k+1) f fd ps (qo K fs G):=by
 refine F.ok S (fun vs H Q E h=>?_) (fun bD A outer s H vs Q E hr h=>?_)
 · obtain ⟨ts,as,Ox,q,_,_,_,ha,_⟩:=h
   rw [← Th]; exact (eR ha).2.1
 · obtain ⟨ts,as,Ox,q,nd,nx,ox,ha,hG,kk⟩:=h
   have l1:=(eR ha).1
   obtain ⟨g,hg,hq⟩:=iG bD A outer s H E as Ox hr ts q l1 hG
   exact ⟨_,hg [],oa nd nx ox ha kk hq⟩
end
def bS (K:PySem.W.Frag) (n:Nat) (G:List T→(Rt→Prop)→Prop):Sp:=qo K (List.replicate n false) fun ts q=>G ts (q [])
section
variable {K:PySem.W.Frag} {H:Hp} {A:List Addr}
theorem dG:∀ {n:Nat} {ts:List T} {vs:List V},ts.length=n→aG K H A ts vs→dF K H A (List.replicate n false) [] ts vs
 | 0,ts,vs,l,h=>by
   have e:ts=[]:=RF.mp l
   subst e
   simp only [aG] at h
   exact ⟨rfl,rfl,h⟩
 | n+1,ts,vs,l,h=>by
   cases ts with
   | nil=>simp at l
   | cons t ts =>
     simp only [aG] at h
     obtain ⟨v,r,rfl,h1,h2⟩:=h
     exact ⟨t,ts,v,r,rfl,rfl,h1,dG (by simpa using l) h2⟩
end
theorem az.HZ {K:PySem.W.Frag} {Z:Zc} {tm:List (T×V)} {O:List (Option Addr)} {ρ:En} {σ:St} {H H':Hp} (I:az K Z tm O ρ σ H) {a:Addr} (h:H a=none) (s:aJ H H') {u:HO} (hu:H' a=some u):az K (Z.ex a) tm O ρ σ H':=by
 have J:=I.same s
 obtain ⟨n1,n2,n3⟩:=I.fresh h
 have mr:∀ b∈av (Z.ex a) O,b∈av Z O∨H b=none:=fun b hb=>(cV b hb).imp id fun e=>by rw [e]; exact h
 have fw:∀ {t:T} {v:V},At K H (av Z O) t v→At K H' (av (Z.ex a) O) t v:=fun q=>(q.more mr).same s
 refine ⟨J.lσ,J.lO,fun i e hi=>?_,J.nd,fun b hb=>?_,J.par,fun b hb=>?_,J.keep,fun p hp=>fw (I.nz p hp)⟩
 · obtain ⟨o,w,h1,h2,h3⟩:=I.sl i e hi
   refine ⟨o,w,h1,h2,h3.map (fun _ _ q=>fw q) fun b t eo q=>?_⟩
   exact cq.same (q.map rfl fun _ _ z=>z.more mr) s
 · obtain ⟨q1,q2,q3⟩:=J.own b hb
   refine ⟨q1,fun z=>?_,q3⟩
   rcases dS.mp z with z | z
   · exact n1 (by rw [← z]; exact mz _ hb)
   · exact q2 z
 · rcases dS.mp hb with z | z
   · rw [z,hu]; simp
   · exact J.ox b z
def KA (n:Nat) (g:FA) (G:List T→(Rt→Prop)→Prop):FP:=fun ρ Q=>g ρ fun ts=>ts.length=n∧G ts Q
def KC:Rt→Bool
 | .vw t=>kr t
 | .fr (.lst ts)=>sg ts
 | _=>false
def KD (n:Nat) (g:FA) (G:List T→(Rt→Prop)→Prop):FP:=fun ρ Q=>g ρ fun ts=>ts.length=n∧G ts fun r=>KC r=true∧Q r
section
variable {X:Cx} {Z:Zc} {k n:Nat} {f:Addr} {fd:FuncData} {ps:List Str} {G:List T→(Rt→Prop)→Prop} {x:Str} {p pos:Pos} {e:Expr} {es:List Expr} {g:FA}
theorem yx {tm:List (T×V)} {O:List (Option Addr)} {ρ:En} {σ:St} {H:Hp} {ts:List T} {vs:List V} {q:Rt→Prop} {Q:VK} (I:az X.K Z tm O ρ σ H) (a:aG X.K H (av Z O) ts vs) (hn:ts.length=n) (hG:G ts q)
  (k:∀ r,q r→∀ v H',aJ H H'→iL X.K Z tm O ρ σ H' r v→Q v H'):bS X.K n G (vs ++ []) H Q E0:=by
 rw [Eh]
 refine ⟨ts,[],av Z O,fun _ r=>q r,IX,fun _ z=>absurd z fD,I.Kb,dG hn a,hG,fun us r hr v H' fr z=>?_⟩
 have s:aJ H H':=fun b o e=>fr b o e fD
 cases r with
 | vw t=>exact k _ hr v H' s ⟨I.same s,z.1⟩
 | fr t =>
   obtain ⟨b,rfl,hb,_,hR,_⟩:=z
   obtain ⟨n1,n2,n3⟩:=I.fresh hb
   obtain ⟨u,eu,_⟩:=hR.mut
   refine k _ hr _ H' s ⟨b,rfl,I.HZ hb s eu,hR.bq fun c hc=>?_,n3,n2⟩
   rcases cV c hc with z | z
   · exact jc _ z
   · rw [z]; exact jz
theorem aM (F:cD X.prog X.w X.K X.mg X.base iK k f fd ps (bS X.K n G)) (hr:bp k X.A) (hg:Gl X x) (hm:X.mg x=some (.ref f)) (hk:PySem.W.keepIn X.K (.ref f)=true) (hb:Binds X.K fd ps []) (ha:VA X Z (e :: es) g)
  (nP:gg x:=by decide) (he:starEach (e :: es) X.env=(false,eval e X.env) :: starEach es X.env:=by rfl) (fM:(backTo pos (starEach es X.env)).any (·.1)=false:=by rfl) :
  VP X Z (.Call (.Name x p) (e :: es) [] pos) (KA n g G):=.mk fun tm=>PE.weak (ki F hr hg hm hk hb .nil ud (ha tm) nP he fM) fun σ H Q ⟨ρ,O,q,I,hf,k⟩ =>
 ⟨ρ,O,_,I,hf,fun ts gE vs H1 s1 a1=>yx (I.same s1) a1 gE.1 gE.2 fun r hr v H' s z=>k r hr v H' (s1.trans s) z⟩
theorem eS (F:cD X.prog X.w X.K X.mg X.base iK k f fd ps (bS X.K n G)) (hr:bp k X.A) (hg:Gl X x) (hm:X.mg x=some (.ref f)) (hk:PySem.W.keepIn X.K (.ref f)=true) (hb:Binds X.K fd ps []) (ha:Es X Z (e :: es) g)
  (nP:gg x:=by decide) (he:starEach (e :: es) X.env=(false,eval e X.env) :: starEach es X.env:=by rfl) (fM:(backTo pos (starEach es X.env)).any (·.1)=false:=by rfl) :
  VP X Z (.Call (.Name x p) (e :: es) [] pos) (KD n g G):=.mk fun tm=>PE.weak (ki F hr hg hm hk hb .nil ud (ha tm) nP he fM) fun σ H Q ⟨ρ,O,q,I,hf,k⟩ =>
 ⟨ρ,O,_,I,hf,fun ts gE vs H1 s1 a1=>by
   show bS X.K n G (vs ++ []) H1 Q E0
   rw [Eh]
   have J:=I.same s1
   have a2:aG X.K H1 [] ts vs:=aG.iff.mpr (Paired.mE a1 fun _ _ z=>z.bare)
   refine ⟨ts,[],[],fun _ r=>KC r=true∧q r,IX,fun _ z=>absurd z fD,fun _ z=>absurd z fD,dG gE.1 a2,gE.2,fun us r ⟨hi,hr⟩ v H' fr z=>?_⟩
   have s:aJ H1 H':=fun b o e=>fr b o e fD
   cases r with
   | vw t=>exact k _ hr v H' (s1.trans s) ⟨J.same s,At.kr hi z.1⟩
   | fr t =>
     obtain ⟨b,rfl,hb,_,hR,_⟩:=z
     obtain ⟨n1,n2,n3⟩:=J.fresh hb
     obtain ⟨u,eu,_⟩:=hR.mut
     cases t with
     | lst ts =>
       obtain ⟨ws,e1,e2⟩:=hR
       exact k _ hr _ H' (s1.trans s) ⟨b,rfl,J.HZ hb s eu,⟨ws,e1,aG.kr hi e2⟩,n3,n2⟩
     | _=>exact absurd hi (by simp [KC])⟩
end
def AM (K:PySem.W.Frag) (H:Hp) (A:List Addr) (O:List (Option Addr)) (ρ:En):List (Option Nat)→List T→List V→Prop
 | [],ts,vs=>ts=[]∧vs=[]
 | none :: ms,ts,vs=>∃ t jS v j',ts=t :: jS∧vs=v :: j'∧At K H A t v∧AM K H A O ρ ms jS j'
 | some k :: ms,ts,vs=>∃ a t jS j',ts=t :: jS∧vs = .ref a :: j'∧ρ[k]?=some (some (t,true))∧O[k]?=some (some a)∧AM K H A O ρ ms jS j'
def Vu (X:Cx) (Z:Zc) (tm:List (T×V)) (ms:List (Option Nat)) (f:FA):TA:=fun σ H Q=>∃ ρ O q,az X.K Z tm O ρ σ H∧f ρ q∧∀ ts,q ts→∀ vs H',aJ H H'→AM X.K H' (av Z O) O ρ ms ts vs→Q vs H'
def KG (X:Cx) (Z:Zc) (es:List Expr) (ms:List (Option Nat)) (f:FA):Prop:=Bx fun tm=>PA X es (Vu X Z tm ms f)
instance {X:Cx} {Z:Zc} {es:List Expr} {ms:List (Option Nat)} {f:FA}:CoeFun (KG X Z es ms f) fun _=>∀ tm,PA X es (Vu X Z tm ms f):=⟨fun h=>Bx.h h⟩
def B6 (i:Nat):FE:=fun ρ Q=>match ρ[i]? with
 | some (some (t,true))=>Q t
 | _=>False
section
variable {X:Cx} {Z:Zc} {e:Expr} {es:List Expr} {g:FA}
theorem sr:KG X Z [] [] BU:=.mk fun tm=>PA.weak cR fun σ H Q ⟨ρ,O,q,I,hf,k⟩=>k _ hf [] H (aJ.refl H) ⟨rfl,rfl⟩
theorem iQ {ms:List (Option Nat)} {f:FE} (h:VE X Z e f) (h':KG X Z es ms g) (hs:starEach (e :: es) X.env=(false,eval e X.env) :: starEach es X.env:=by rfl):KG X Z (e :: es) (none :: ms) (uo f g) :=
 .mk fun tm=>PA.weak (bu (h tm) (h' tm) hs) fun σ H Q ⟨ρ,O,q,I,hf,k⟩=>⟨ρ,O,_,I,hf,fun t ht v H1 s1 a1=>⟨ρ,O,_,I.same s1,ht,fun ts gE vs H2 s2 a2=>k _ gE _ H2 (s1.trans s2) ⟨t,ts,v,vs,rfl,rfl,a1.same s2,a2⟩⟩⟩
theorem nB (j:Nat) {ms:List (Option Nat)} {y:Str} {py:Pos} (h':KG X Z es ms g) (hN:X.N[j]?=some y:=by rfl) (hv:rR X.env.scope y:=by first | exact Or.inl rfl | exact Or.inr (Or.inl rfl) | exact Or.inr (Or.inr rfl)) (hd:gg y:=by decide)
  (iA:tZ y:=by decide) (hs:starEach (.Name y py :: es) X.env=(false,eval (.Name y py) X.env) :: starEach es X.env:=by rfl):KG X Z (.Name y py :: es) (some j :: ms) (uo (B6 j) g) :=
 .mk fun tm=>PA.weak (bu (cQ hN hv hd iA) (h' tm) hs) fun σ H Q ⟨ρ,O,q,I,hf,k⟩=>by
  have Q2:B6 j ρ fun t=>g ρ fun ts=>q (t :: ts):=hf
  unfold B6 at Q2
  split at Q2
  · rename_i t e0
    obtain ⟨a,h1,h2,h3⟩:=I.root e0
    exact ⟨.ref a,h2,ρ,O,_,I,Q2,fun ts gE vs H2 s2 a2=>k _ gE _ H2 s2 ⟨a,t,ts,vs,rfl,rfl,e0,h1,a2⟩⟩
  · exact Q2.elim
end
def putK:List Nat→List T→En→En
 | k :: ks,u :: us,ρ=>putK ks us (ρ.set k (some (u,true)))
 | _,_,ρ=>ρ
theorem og:∀ (ks:List Nat) (us:List T) (ρ:En),(putK ks us ρ).length=ρ.length
 | [],_,_=>rfl
 | _ :: _,[],_=>rfl
 | k :: ks,u :: us,ρ=>by rw [putK,og]; simp
theorem uv:∀ {ks:List Nat} {us:List T} {ρ:En} {i:Nat} {e:Option (T×Bool)},ks.Nodup→ks.length=us.length→(putK ks us ρ)[i]?=some e→(i∉ks∧ρ[i]?=some e)∨∃ (j:Nat) (u:T),ks[j]?=some i∧us[j]?=some u∧e=some (u,true)
 | [],us,ρ,i,e,_,_,h=>.inl ⟨fD,h⟩
 | k :: ks,[],ρ,i,e,_,l,h=>by simp at l
 | k :: ks,u :: us,ρ,i,e,nd,l,h=>by
   rw [qQ] at nd
   rcases uv nd.2 (by simpa using l) (show (putK ks us (ρ.set k (some (u,true))))[i]?=some e from h) with ⟨h1,h2⟩ | ⟨j,u',h1,h2,h3⟩
   · rcases get_set h2 with ⟨rfl,rfl,_⟩ | ⟨ne,h2⟩
     · exact .inr ⟨0,u,rfl,rfl,rfl⟩
     · exact .inl ⟨fun z=>by rcases dS.mp z with z | z; exact ne z; exact h1 z,h2⟩
   · exact .inr ⟨j+1,u',by simpa using h1,by simpa using h2,h3⟩
section
variable {K:PySem.W.Frag} {H H':Hp} {A:List Addr}
theorem At.KH {as:List Addr} {t:T} {v:V} (fr:∀ b o,H b=some o→b∉as→H' b=some o) (sub:∀ a∈as,a∈A) (mu:∀ a∈as,∃ u,H a=some u∧uj u=true) (h:At K H A t v):At K H' A t v:=by
 refine At.map (fun b vs q=>?_) (fun b vs q=>?_) (fun b aZ q=>?_) h
 · rcases q with q | q
   · refine .inl ⟨?_,q.2⟩
     have nb:b∉as:=fun z=>q.2 (sub b z)
     rcases q.1 with z | ⟨o',z⟩
     · exact .inl (fr _ _ z nb)
     · exact .inr ⟨o',fr _ _ z nb⟩
   · exact .inr q
 · rcases q with z | z
   · refine .inl ?_
     have nb:b∉as:=fun m=>by
      obtain ⟨u,eu,mu⟩:=mu b m
      rcases z with z | ⟨o',z⟩
      · rw [z] at eu; cases eu; cases mu
      · rw [z] at eu; cases eu; cases mu
     rcases z with z | ⟨o',z⟩
     · exact .inl (fr _ _ z nb)
     · exact .inr ⟨o',fr _ _ z nb⟩
   · exact .inr z
 · exact ⟨fr _ _ q.1 fun z=>q.2 (sub b z),q.2⟩
theorem AM.args {A':List Addr} {O:List (Option Addr)} {ρ:En} (sub:∀ a∈A',a∈A) (hr:∀ (k:Nat) t,ρ[k]?=some (some (t,true))→∃ a,O[k]?=some (some a)∧cq K H A a t):∀ {ms:List (Option Nat)} {ts:List T} {vs:List V},AM K H A O ρ ms ts vs →
  ∃ as,dF K H A' (ms.map Option.isSome) as ts vs∧Paired (fun a k=>O[k]?=some (some a)) as (ms.filterMap id)
 | [],ts,vs,h=>⟨[],⟨rfl,h.1,h.2⟩,.nil⟩
 | none :: ms,ts,vs,h=>by
   obtain ⟨t,jS,v,j',rfl,rfl,a,h⟩:=h
   obtain ⟨as,h1,h2⟩:=AM.args sub hr h
   exact ⟨as,⟨t,jS,v,j',rfl,rfl,a.bq sub,h1⟩,h2⟩
 | some k :: ms,ts,vs,h=>by
   obtain ⟨a,t,jS,j',rfl,rfl,e0,e1,h⟩:=h
   obtain ⟨as,h1,h2⟩:=AM.args sub hr h
   obtain ⟨a',e2,r⟩:=hr k t e0
   rw [e1] at e2
   cases e2
   exact ⟨a :: as,⟨a,as,t,jS,j',rfl,rfl,rfl,r.bq sub,h1⟩,.cons e1 h2⟩
end
def KI (ms:List (Option Nat)) (g:FA) (G:GT):FX:=fun ρ Q=>g ρ fun ts=>G ts fun us r=>Q (putK (ms.filterMap id) us ρ) r
section
variable {X:Cx} {Z:Zc} {k:Nat} {f:Addr} {fd:FuncData} {ps:List Str} {fs:List Bool} {G:GT} {x:Str} {p pos:Pos} {e:Expr} {es:List Expr} {g:FA} {ms:List (Option Nat)}
theorem H_ {K:PySem.W.Frag} {tm:List (T×V)} {O:List (Option Addr)} {ρ:En} {σ:St} {H:Hp} (I:az K Z tm O ρ σ H) {i j:Nat} {a:Addr} (h1:O[i]?=some (some a)) (h2:O[j]?=some (some a)):i=j:=by
 have key:∀ (O:List (Option Addr)) (i j:Nat),i < j→O[i]?=some (some a)→O[j]?=some (some a)→(roots O).Nodup→False:=by
  intro O
  induction O with
  | nil=>intro i j _ h; simp at h
  | cons o O ih =>
    intro i j Fo e1 e2 nd
    cases j with
    | zero=>omega
    | succ j =>
      have Eo:O[j]?=some (some a):=by simpa using e2
      cases i with
      | zero =>
        have:o=some a:=by simpa using e1
        subst this
        simp only [roots,mZ,id] at nd
        exact (qQ.mp nd).1 (aN.mpr (mY Eo))
      | succ i =>
        refine ih i j (by omega) (by simpa using e1) Eo ?_
        cases o with
        | none=>simpa [roots] using nd
        | some b=>simp only [roots,mZ,id] at nd; exact (qQ.mp nd).2
 rcases Nat.lt_trichotomy i j with l | l | l
 · exact (key O i j l h1 h2 I.nd).elim
 · exact l
 · exact (key O j i l h2 h1 I.nd).elim
theorem eU {α β:Type} {F:α→β→Prop}:∀ {l₁:List α} {l₂:List β} {a:α},Paired F l₁ l₂→a∈l₁→∃ b∈l₂,F a b
 | _,_,_,.nil,h=>nomatch h
 | _,_,a,.cons r t,h=>by
   rcases dS.mp h with z | z
   · subst z; exact ⟨_,jz,r⟩
   · obtain ⟨b,h1,h2⟩:=eU t z; exact ⟨b,jc _ h1,h2⟩
theorem oh {α β:Type} {F:α→β→Prop}:∀ {l₁:List α} {l₂:List β} {i:Nat} {b:β},Paired F l₁ l₂→l₂[i]?=some b→∃ a,l₁[i]?=some a∧F a b
 | _,_,_,_,.nil,e=>by simp at e
 | _,_,0,_,.cons r _,e=>by simp at e; subst e; exact ⟨_,rfl,r⟩
 | _,_,i+1,b,.cons _ t,e=>by
   obtain ⟨a,h1,h2⟩:=oh (i:=i) (b:=b) t (by simpa using e)
   exact ⟨a,by simpa using h1,h2⟩
theorem iR {α β:Type} {F:α→β→Prop}:∀ {l₁:List α} {l₂:List β} {i:Nat} {a:α},Paired F l₁ l₂→l₁[i]?=some a→∃ b,l₂[i]?=some b∧F a b
 | _,_,_,_,.nil,e=>by simp at e
 | _,_,0,_,.cons r _,e=>by simp at e; subst e; exact ⟨_,rfl,r⟩
 | _,_,i+1,b,.cons _ t,e=>by
   obtain ⟨a,h1,h2⟩:=iR (i:=i) (a:=b) t (by simpa using e)
   exact ⟨a,by simpa using h1,h2⟩
theorem az.called {K:PySem.W.Frag} {Z':Zc} {tm:List (T×V)} {O:List (Option Addr)} {ρ:En} {σ:St} {H H':Hp} {as:List Addr} {ks:List Nat} {us:List T} (I:az K Z tm O ρ σ H) (hk:Paired (fun a k=>O[k]?=some (some a)) as ks) (nk:ks.Nodup)
  (fr:∀ b o,H b=some o→b∉as→H' b=some o) (hu:Paired (fun a u=>cq K H' (av Z' O) a u) as us)
  (hZ:Z'.H0=Z.H0) (hP:Z'.P=Z.P) (Vv:∀ a∈Z'.Ox,a∉roots O∧H' a≠none) (more:∀ a∈av Z' O,a∈av Z O∨H a=none):az K Z' tm O (putK ks us ρ) σ H':=by
 have wm:∀ a∈as,a∈roots O:=fun a h=>by obtain ⟨k,_,e⟩:=eU hk h; exact aN.mpr (mY e)
 have sub:∀ a∈as,a∈av Z O:=fun a h=>mz _ (wm a h)
 have Ti:∀ a∈as,a∈av Z' O:=fun a h=>mz _ (wm a h)
 have mu:∀ a∈as,∃ u,H a=some u∧uj u=true:=fun a h=>(I.own a (wm a h)).2.2
 have fw:∀ {t:T} {v:V},At K H (av Z O) t v→At K H' (av Z' O) t v:=fun q=>(q.more more).KH fr Ti mu
 have WZ:∀ {t:List T} {v:List V},aG K H (av Z O) t v→aG K H' (av Z' O) t v:=fun q=>aG.iff.mpr (Paired.mE (aG.iff.mp q) fun _ _ z=>fw z)
 refine ⟨by rw [og]; exact I.lσ,by rw [og]; exact I.lO,fun i e h=>?_,I.nd,fun b hb=>?_,by rw [hP]; exact I.par,fun a ha=>(Vv a ha).2,fun b o e n=>?_,fun p hp=>fw (I.nz p hp)⟩
 · rcases uv nk (by rw [← Paired.length hk,Paired.length hu]) h with ⟨h1,h2⟩ | ⟨j,u,h1,h2,rfl⟩
   · obtain ⟨o,s,g1,g2,g3⟩:=I.sl i e h2
     refine ⟨o,s,g1,g2,g3.map (fun _ _ q=>fw q) fun b t eo q=>?_⟩
     subst eo
     have nb:b∉as:=fun m=>by
      obtain ⟨k,KJ,FN⟩:=eU hk m
      exact h1 (by rw [H_ I g1 FN]; exact KJ)
     obtain ⟨u,eu,_⟩:=q.mut
     exact q.map (by rw [eu]; exact fr _ _ eu nb) fun _ _ z=>WZ z
   · obtain ⟨a,ha,r⟩:=oh hu h2
     obtain ⟨k,KJ,FN⟩:=iR hk ha
     rw [h1] at KJ
     cases KJ
     have hl:i < ρ.length:=by rw [← I.lO]; exact (gh.mp FN).1
     obtain ⟨o,s,g1,g2,g3⟩:=I.sl i ρ[i] (by simp)
     rw [FN] at g1
     cases g1
     refine ⟨some a,s,FN,g2,a,rfl,?_,r⟩
     cases q:ρ[i] with
     | none=>rw [q] at g3; cases g3
     | some tb =>
       obtain ⟨t,b⟩:=tb
       rw [q] at g3
       cases b with
       | false=>cases g3.1
       | true=>obtain ⟨a',e1,e2,_⟩:=g3; cases e1; exact e2
 · obtain ⟨q1,q2,v,e,m⟩:=I.own b hb
   refine ⟨by rw [hZ,hP]; exact q1,fun z=>(Vv b z).1 hb,?_⟩
   by_cases Vw:b∈as
   · obtain ⟨j,hj⟩:=MZ.mp Vw
     obtain ⟨u,_,r⟩:=iR hu hj
     exact r.mut
   · exact ⟨v,fr _ _ e Vw,m⟩
 · rw [hZ] at e
   rw [hP] at n
   refine fr _ _ (I.keep b o e n) fun m=>?_
   rcases (I.own b (wm b m)).1 with z | z
   · exact n z
   · rw [z] at e; cases e
theorem oi (F:cD X.prog X.w X.K X.mg X.base iK k f fd ps (qo X.K fs G)) (hr:bp k X.A) (hg:Gl X x) (hm:X.mg x=some (.ref f)) (hk:PySem.W.keepIn X.K (.ref f)=true) (hb:Binds X.K fd ps []) (ha:KG X Z (e :: es) ms g)
  (Th:ms.map Option.isSome=fs:=by rfl) (MA:(ms.filterMap id).Nodup:=by decide)
  (nP:gg x:=by decide) (he:starEach (e :: es) X.env=(false,eval e X.env) :: starEach es X.env:=by rfl) (fM:(backTo pos (starEach es X.env)).any (·.1)=false:=by rfl) :
  VX X Z (.Call (.Name x p) (e :: es) [] pos) (KI ms g G):=.mk fun tm=>PE.weak (ki F hr hg hm hk hb .nil ud (ha tm) nP he fM) fun σ H Q ⟨ρ,O,q,I,hf,k⟩ =>
 ⟨ρ,O,_,I,hf,fun ts gE vs H1 s1 a1=>by
   subst Th
   show qo X.K _ G (vs ++ []) H1 Q E0
   rw [Eh]
   have J:=I.same s1
   obtain ⟨as,h1,h2⟩:=AM.args (A':=av Z O) (fun _ z=>z) (fun k t e=>by obtain ⟨a,q1,q2,q3⟩:=J.root e; exact ⟨a,q1,q3⟩) a1
   have wm:∀ a∈as,a∈roots O:=fun a h=>by obtain ⟨k,_,e⟩:=eU h2 h; exact aN.mpr (mY e)
   have W0:as.Nodup:=by
    clear h1
    have:∀ {as:List Addr} {ks:List Nat},ks.Nodup→Paired (fun a k=>O[k]?=some (some a)) as ks→as.Nodup:=by
     intro as ks nd h
     induction h with
     | nil=>exact IX
     | cons r t ih =>
       rw [qQ] at nd ⊢
       refine ⟨fun m=>?_,ih nd.2⟩
       obtain ⟨k',m1,m2⟩:=eU t m
       exact nd.1 (by rw [H_ J r m2]; exact m1)
    exact this MA h2
   have Q3:∀ b,b∈as ++ (av Z O).filter (fun b=>decide (b∉as))↔b∈av Z O:=fun b=>by
    rw [jA,M']
    constructor
    · rintro (z | z)
      · exact mz _ (wm b z)
      · exact z.1
    · intro z
      by_cases hb:b∈as
      · exact .inl hb
      · exact .inr ⟨z,decide_eq_true hb⟩
   obtain ⟨rf,KL,B7⟩:=AM.args (A':=as ++ (av Z O).filter (fun b=>decide (b∉as))) (fun b z=>(Q3 b).mp z) (fun k t e=>by obtain ⟨a,q1,q2,q3⟩:=J.root e; exact ⟨a,q1,q3⟩) a1
   have ee:rf=as:=by
    have:∀ {as rf:List Addr} {ks:List Nat},Paired (fun a k=>O[k]?=some (some a)) as ks→Paired (fun a k=>O[k]?=some (some a)) rf ks→rf=as:=by
     intro as rf ks h h'
     induction h generalizing rf with
     | nil=>cases h'; rfl
     | cons r t ih =>
       cases h' with
       | cons r' t' =>
         rw [r] at r'
         cases r'
         rw [ih t']
    exact this h2 B7
   subst ee
   refine ⟨ts,rf,(av Z O).filter (fun b=>decide (b∉rf)),_,W0,fun a h z=>?_,fun a h=>J.Kb a (M'.mp h).1,KL,gE,fun us r hr v H' fr z=>?_⟩
   · exact (of_decide_eq_true (M'.mp z).2) h
   have Oo:∀ a∈Z.Ox,a∉roots O∧H' a≠none:=fun a h=>by
    have na:a∉roots O:=fun m=>(J.own a m).2.1 h
    refine ⟨na,?_⟩
    cases e:H1 a with
    | none=>exact absurd e (J.ox a h)
    | some u=>rw [fr _ _ e fun m=>na (wm a m)]; simp
   cases r with
   | vw t =>
     obtain ⟨z1,z2⟩:=z
     exact k _ _ hr O v H' ⟨J.called h2 MA fr (Paired.mE z2 fun _ _ q=>q.bq fun b hb=>(Q3 b).mpr hb) rfl rfl Oo fun a h=>.inl h,z1.bq fun b hb=>(Q3 b).mpr hb⟩
   | fr t =>
     obtain ⟨b,rfl,hb,nb,hR,z2⟩:=z
     obtain ⟨n1,n2,n3⟩:=J.fresh hb
     have sb:∀ c∈av (Z.ex b) O,c∈b :: (rf ++ (av Z O).filter (fun b=>decide (b∉rf))):=fun c hc=>by
      rcases cV c hc with z | z
      · exact jc _ ((Q3 c).mpr z)
      · rw [z]; exact jz
     refine k _ _ hr O _ H' ⟨b,rfl,J.called h2 MA fr (Paired.mE z2 fun _ _ q=>q.bq sb) rfl rfl (fun a h=>?_) (fun a h=>(cV a h).imp id fun e=>by rw [e]; exact hb),hR.bq sb,n3,n2⟩
     rcases dS.mp h with z | z
     · subst z
       obtain ⟨u,eu,_⟩:=hR.mut
       exact ⟨fun m=>n1 (mz _ m),by rw [eu]; simp⟩
     · exact Oo a z⟩
end
section
variable (K:PySem.W.Frag)
theorem ux:PySem.W.kitOne K (.type "int") (.type "int")=some true:=by kernel_rfl
theorem su:PySem.W.kitOne K (.type "int") (.type "bool")=some false:=by kernel_rfl
theorem uy:PySem.W.kitOne K (.type "int") (.type "str")=some false:=by kernel_rfl
theorem qp:PySem.W.kitOne K (.type "int") (.type "tuple")=some false:=by kernel_rfl
theorem sx:PySem.W.kitOne K (.type "bool") (.type "int")=some true:=by kernel_rfl
theorem qq:PySem.W.kitOne K (.type "bool") (.type "bool")=some true:=by kernel_rfl
theorem sy:PySem.W.kitOne K (.type "bool") (.type "str")=some false:=by kernel_rfl
theorem oj:PySem.W.kitOne K (.type "bool") (.type "tuple")=some false:=by kernel_rfl
theorem uz:PySem.W.kitOne K (.type "str") (.type "int")=some false:=by kernel_rfl
theorem sA:PySem.W.kitOne K (.type "str") (.type "bool")=some false:=by kernel_rfl
theorem uA:PySem.W.kitOne K (.type "str") (.type "str")=some true:=by kernel_rfl
theorem qr:PySem.W.kitOne K (.type "str") (.type "tuple")=some false:=by kernel_rfl
theorem sC:PySem.W.kitOne K (.type "list") (.type "int")=some false:=by kernel_rfl
theorem qt:PySem.W.kitOne K (.type "list") (.type "bool")=some false:=by kernel_rfl
theorem sD:PySem.W.kitOne K (.type "list") (.type "str")=some false:=by kernel_rfl
theorem om:PySem.W.kitOne K (.type "list") (.type "tuple")=some false:=by kernel_rfl
theorem qu:PySem.W.kitOne K (.type "tuple") (.type "int")=some false:=by kernel_rfl
theorem oq:PySem.W.kitOne K (.type "tuple") (.type "bool")=some false:=by kernel_rfl
theorem qv:PySem.W.kitOne K (.type "tuple") (.type "str")=some false:=by kernel_rfl
theorem mI:PySem.W.kitOne K (.type "tuple") (.type "tuple")=some true:=by kernel_rfl
theorem sE:PySem.W.kitOne K (.type "dict") (.type "int")=some false:=by kernel_rfl
theorem qw:PySem.W.kitOne K (.type "dict") (.type "bool")=some false:=by kernel_rfl
theorem sF:PySem.W.kitOne K (.type "dict") (.type "str")=some false:=by kernel_rfl
theorem ot:PySem.W.kitOne K (.type "dict") (.type "tuple")=some false:=by kernel_rfl
theorem lH:PySem.W.kitOne K (.type "NoneType") (.type "int")=some false:=by kernel_rfl
theorem kA:PySem.W.kitOne K (.type "NoneType") (.type "bool")=some false:=by kernel_rfl
theorem lJ:PySem.W.kitOne K (.type "NoneType") (.type "str")=some false:=by kernel_rfl
theorem jT:PySem.W.kitOne K (.type "NoneType") (.type "tuple")=some false:=by kernel_rfl
end
def Vx (K:PySem.W.Frag) (H:Hp):V→String→Prop
 | .bh,t=>t="NoneType"
 | .bl _,t=>t="bool"
 | .int _,t=>t="int"
 | .str _,t=>t="str"
 | .ref a,t=>(t="list"∧∃ xs,eI K H a xs)∨(t="tuple"∧∃ xs,dw K H a xs)∨(t="dict"∧∃ aZ,H a=some (.dK aZ))
 | _,_=>False
def Oq (K:PySem.W.Frag):List V→Hp→VK→Prop:=fun xs H Q=>∃ x n t b,xs=[x,.ty n]∧Vx K H x t∧PySem.W.kitOne K (.type t) (.type n)=some b∧Q (.bl b) H
theorem zu {X:Cx}:cU X (.builtin "isinstance") (Oq X.K):=by
 intro pins s σ H xs us Q I r h
 obtain ⟨x,n,t,b,rfl,ty,e,q⟩:=h
 obtain ⟨u,w',rfl,rx,ry⟩:=vals2 r
 obtain rfl:w'=Value.type n:=ry
 have fin:∀ tk,EP X pins σ Q (.bool b) { s with toks:=tk }:=fun tk=>⟨.bl b,H,I.tok _,rfl,q⟩
 cases x with
 | bh=>cases (show t=_ from ty); cases (show u=Value.none from rx); exact Hw PySem.W.kitx_none I.la True.intro e (fun z=>nomatch z) fin
 | bl y=>cases (show t=_ from ty); cases (show u=Value.bool y from rx); exact Hw PySem.W.kitx_bool I.la True.intro e (fun z=>nomatch z) fin
 | int i=>cases (show t=_ from ty); obtain ⟨t,q⟩:=(show ∃ t,u=Value.int i t from rx); cases q; exact Hw PySem.W.kitx_int I.la True.intro e (fun z=>nomatch z) fin
 | str y=>cases (show t=_ from ty); obtain ⟨t,q⟩:=(show ∃ t,u=Value.str y t from rx); cases q; exact Hw PySem.W.kitx_str I.la True.intro e (fun z=>nomatch z) fin
 | ref a =>
   cases (show u=Value.ref a from rx)
   rcases ty with ⟨rfl,xs,hq⟩ | ⟨rfl,xs,hq⟩ | ⟨rfl,aZ,hq⟩
   · obtain ⟨aK,_,p,_⟩:=I.list hq
     obtain ⟨o,n',h1,h2,_⟩:=p
     exact Hw PySem.W.kitx_list I.la ⟨o,h1,h2⟩ e (fun z=>nomatch z) fin
   · obtain ⟨aK,_,p,_⟩:=I.tuple hq
     obtain ⟨o,h1,h2,_⟩:=p
     exact Hw PySem.W.kitx_tuple I.la ⟨o,h1,h2⟩ e (fun z=>nomatch z) fin
   · obtain ⟨_,_,vs,_,p⟩:=(show bM X.prog X.w H s.heap a (.dK aZ) from I.bC a _ hq)
     obtain ⟨o,es,ep,h1,h2,_⟩:=p
     exact Hw PySem.W.kitx_dict I.la ⟨o,h1,h2.1⟩ e (fun z=>nomatch z) fin
 | _=>exact (show False from ty).elim
def isInt:T→Bool
 | .int _=>true
 | .bl _=>true
 | _=>false
def isBool:T→Bool
 | .bl _=>true
 | _=>false
def isStr:T→Bool
 | .str _=>true
 | _=>false
def isList:T→Bool
 | .lst _=>true
 | _=>false
def FQ:T→Bool
 | .tup _=>true
 | _=>false
def known:T→Bool
 | .dt _ _=>false
 | .df _ _ _=>false
 | .dz _ _ _=>false
 | .kt _=>false
 | .ins _ _ _=>false
 | .pin _ _=>false
 | .ob _=>false
 | .ty _=>false
 | _=>true
def ou (K:PySem.W.Frag) (n:String) (p:T→Bool):Prop:=∀ H A t v,known t=true→gD K H A t v→∃ ty,Vx K H v ty∧PySem.W.kitOne K (.type ty) (.type n)=some (p t)
theorem uB {K:PySem.W.Frag}:ou K "int" isInt:=by
 intro H A t v hk h
 cases t with
 | bh=>rw [h.bh]; exact ⟨_,rfl,lH K⟩
 | bl b=>rw [h.bl]; exact ⟨_,rfl,sx K⟩
 | int b=>rw [h.int]; exact ⟨_,rfl,ux K⟩
 | str b=>rw [h.str]; exact ⟨_,rfl,uz K⟩
 | tup l=>obtain ⟨a,vs,rfl,q,_⟩:=h.tup; exact ⟨_,.inr (.inl ⟨rfl,_,q⟩),qu K⟩
 | lst l=>obtain ⟨a,vs,rfl,q,_⟩:=h.lst; exact ⟨_,.inl ⟨rfl,_,q⟩,sC K⟩
 | dk ks l=>obtain ⟨a,vs,rfl,_,q,_⟩:=h.dk; exact ⟨_,.inr (.inr ⟨rfl,_,q⟩),sE K⟩
 | _=>simp only [known] at hk; cases hk
theorem rg {K:PySem.W.Frag}:ou K "bool" isBool:=by
 intro H A t v hk h
 cases t with
 | bh=>rw [h.bh]; exact ⟨_,rfl,kA K⟩
 | bl b=>rw [h.bl]; exact ⟨_,rfl,qq K⟩
 | int b=>rw [h.int]; exact ⟨_,rfl,su K⟩
 | str b=>rw [h.str]; exact ⟨_,rfl,sA K⟩
 | tup l=>obtain ⟨a,vs,rfl,q,_⟩:=h.tup; exact ⟨_,.inr (.inl ⟨rfl,_,q⟩),oq K⟩
 | lst l=>obtain ⟨a,vs,rfl,q,_⟩:=h.lst; exact ⟨_,.inl ⟨rfl,_,q⟩,qt K⟩
 | dk ks l=>obtain ⟨a,vs,rfl,_,q,_⟩:=h.dk; exact ⟨_,.inr (.inr ⟨rfl,_,q⟩),qw K⟩
 | _=>simp only [known] at hk; cases hk
theorem ow {K:PySem.W.Frag}:ou K "str" isStr:=by
 intro H A t v hk h
 cases t with
 | bh=>rw [h.bh]; exact ⟨_,rfl,lJ K⟩
 | bl b=>rw [h.bl]; exact ⟨_,rfl,sy K⟩
 | int b=>rw [h.int]; exact ⟨_,rfl,uy K⟩
 | str b=>rw [h.str]; exact ⟨_,rfl,uA K⟩
 | tup l=>obtain ⟨a,vs,rfl,q,_⟩:=h.tup; exact ⟨_,.inr (.inl ⟨rfl,_,q⟩),qv K⟩
 | lst l=>obtain ⟨a,vs,rfl,q,_⟩:=h.lst; exact ⟨_,.inl ⟨rfl,_,q⟩,sD K⟩
 | dk ks l=>obtain ⟨a,vs,rfl,_,q,_⟩:=h.dk; exact ⟨_,.inr (.inr ⟨rfl,_,q⟩),sF K⟩
 | _=>simp only [known] at hk; cases hk
theorem oy {K:PySem.W.Frag}:ou K "tuple" FQ:=by
 intro H A t v hk h
 cases t with
 | bh=>rw [h.bh]; exact ⟨_,rfl,jT K⟩
 | bl b=>rw [h.bl]; exact ⟨_,rfl,oj K⟩
 | int b=>rw [h.int]; exact ⟨_,rfl,qp K⟩
 | str b=>rw [h.str]; exact ⟨_,rfl,qr K⟩
 | tup l=>obtain ⟨a,vs,rfl,q,_⟩:=h.tup; exact ⟨_,.inr (.inl ⟨rfl,_,q⟩),mI K⟩
 | lst l=>obtain ⟨a,vs,rfl,q,_⟩:=h.lst; exact ⟨_,.inl ⟨rfl,_,q⟩,om K⟩
 | dk ks l=>obtain ⟨a,vs,rfl,_,q,_⟩:=h.dk; exact ⟨_,.inr (.inr ⟨rfl,_,q⟩),ot K⟩
 | _=>simp only [known] at hk; cases hk
def Ot (f:FE) (p:T→Bool):FP:=fun ρ Q=>f ρ fun t=>known t=true∧Q (.vw (.bl (p t)))
section
variable {X:Cx} {Z:Zc} {e a b c:Expr} {es:List Expr} {pos p p2:Pos} {fa fb MB:FE}
theorem kB:bootBuiltins "isinstance" = some (.builtin "isinstance"):=by decide +kernel
theorem eB {n:String} {y:Str} {q:T→Bool} (hq:ou X.K n q) (hg:Gl X "isinstance") (hm:X.mg "isinstance" = none) (W2:Gl X y) (W3:X.mg y=none) (W4:bootBuiltins y=some (.type n)) (ha:VR X Z e fa)
  (W5:y≠"__name__":=by decide) (W6:gg y:=by decide)
  (hs:starEach [e,.Name y p2] X.env=(false,eval e X.env) :: starEach [.Name y p2] X.env:=by rfl) (tW:starEach [.Name y p2] X.env=(false,eval (.Name y p2) X.env) :: starEach [] X.env:=by rfl) (fM:(backTo pos (starEach [.Name y p2] X.env)).any (·.1)=false:=by rfl) :
  VP X Z (.Call (.Name "isinstance" p) [e,.Name y p2] [] pos) (Ot fa q):=.mk fun tm =>
 PE.weak (kj zu hg hm kB (bu (ha tm) (bu (EO (v:=.ty n) W2 W3 W4 rfl W5 W6) cR tW) hs) (by decide) (by decide) hs fM) fun σ H Q ⟨ρ,O,q',I,hf,k⟩=>⟨ρ,O,_,I,hf,fun t ht v H1 s1 a1=>by
  obtain ⟨ty,h1,h2⟩:=hq H1 _ t v ht.1 a1
  exact ⟨v,n,ty,_,rfl,h1,h2,k _ ht.2 _ H1 s1 ⟨I.same s1,cu⟩⟩⟩
def fG:T→Bool
 | .bh=>true
 | .bl _=>true
 | .int _=>true
 | .str _=>true
 | _=>false
def oz:List T→Bool
 | []=>true
 | t :: ts=>fG t && oz ts
def p_ (x:T):List T→Bool
 | []=>false
 | t :: ts=>eqT t x || p_ x ts
theorem gj {K:PySem.W.Frag} {H:Hp} {A:List Addr}:∀ {ts:List T} {vs:List V} {x:T} {v:V},oz ts=true→fG x=true→aG K H A ts vs→At K H A x v→vs.all iI=true∧iI v=true∧QS v vs=p_ x ts
 | [],vs,x,v,_,fx,h,hx=>by
   simp only [aG] at h; subst h
   refine ⟨rfl,?_,rfl⟩
   cases x <;> simp only [At] at hx <;> first | (subst hx; rfl) | (simp only [fG] at fx; cases fx)
 | t :: ts,vs,x,v,f,fx,h,hx=>by
   simp only [aG] at h
   obtain ⟨u,r,rfl,h1,h2⟩:=h
   simp only [oz,iC] at f
   obtain ⟨i1,i2,i3⟩:=gj f.2 fx h2 hx
   have ft:iI u=true:=by
    cases t <;> simp only [At] at h1 <;> first | (subst h1; rfl) | (have:=f.1; simp only [fG] at this; cases this)
   have e:Em u v=eqT t x:=by
    cases t <;> simp only [At] at h1 <;> first
     | (have:=f.1; simp only [fG] at this; cases this; done)
     | (subst h1
        cases x <;> simp only [At] at hx <;> first
         | (simp only [fG] at fx; cases fx; done)
         | (subst hx; simp [Em,eqT]; done))
   refine ⟨by simp [ft,i1],i2,?_⟩
   simp only [p_,QS,Mt]
   rw [e]
   congr 1
def B8 (K:PySem.W.Frag) (neg:Bool):R2:=fun x y H Q=>Si K neg x y H Q∨∃ i j,x = .str i∧y = .str j∧Q (.bl (if neg then !(!(Builtin.Str.occurrences j i 0 j.length 1).isEmpty) else !(Builtin.Str.occurrences j i 0 j.length 1).isEmpty)) H
theorem wo:dY X (compareOp .In) (B8 X.K false):=by
 intro pins s σ H x y v u Q I rx ry h
 rcases h with h | ⟨i,j,h1,h2,h⟩
 · exact zj pins s σ H x y v u Q I rx ry h
 · exact zh pins s σ H x y v u Q I rx ry ⟨i,j,h1,h2,by simpa using h⟩
theorem zw:dY X (compareOp .NotIn) (B8 X.K true):=by
 intro pins s σ H x y v u Q I rx ry h
 rcases h with h | ⟨i,j,h1,h2,h⟩
 · exact rY pins s σ H x y v u Q I rx ry h
 · exact rZ pins s σ H x y v u Q I rx ry ⟨i,j,h1,h2,by simpa using h⟩
def yy (i j:Str):Bool:=!(Builtin.Str.occurrences j i 0 j.length 1).isEmpty
def Ou (x y:T) (q:Rt→Prop):Prop:=match y with
 | .lst ts=>fG x=true∧oz ts=true∧q (.vw (.bl (p_ x ts)))
 | .tup ts=>fG x=true∧oz ts=true∧q (.vw (.bl (p_ x ts)))
 | .str j=>∃ i,x = .str i∧q (.vw (.bl (yy i j)))
 | _=>False
def KN (x y:T) (q:Rt→Prop):Prop:=match y with
 | .lst ts=>fG x=true∧oz ts=true∧q (.vw (.bl (!p_ x ts)))
 | .tup ts=>fG x=true∧oz ts=true∧q (.vw (.bl (!p_ x ts)))
 | .str j=>∃ i,x = .str i∧q (.vw (.bl (!yy i j)))
 | _=>False
theorem wq {K:PySem.W.Frag}:nW K (B8 K false) Ou:=by
 intro Z tm O ρ σ H x y v w q Q I h1 h2 h k
 have x1:fG x=true→At K H (av Z O) x v:=fun f=>by
  rcases h1 with h | ⟨a,rfl,h⟩
  · exact h
  · cases x <;> first | exact h.elim | (simp only [fG] at f; cases f)
 unfold Ou at h
 split at h
 · obtain ⟨f1,f2,h⟩:=h
   obtain ⟨a,vs,rfl,q1,q2⟩:=h2.lst
   obtain ⟨i1,i2,i3⟩:=gj f2 f1 q2 (x1 f1)
   exact .inl ⟨a,vs,rfl,.inl q1,i2,i1,k _ h _ H (aJ.refl H) ⟨I,by rw [if_neg nL,i3]; exact cu⟩⟩
 · obtain ⟨f1,f2,h⟩:=h
   obtain ⟨a,vs,rfl,q1,q2⟩:=h2.tup
   obtain ⟨i1,i2,i3⟩:=gj f2 f1 q2 (x1 f1)
   exact .inl ⟨a,vs,rfl,.inr q1,i2,i1,k _ h _ H (aJ.refl H) ⟨I,by rw [if_neg nL,i3]; exact cu⟩⟩
 · obtain ⟨i,rfl,h⟩:=h
   exact .inr ⟨i,_,h1.str,h2.str,k _ h _ H (aJ.refl H) ⟨I,by rw [if_neg nL]; exact cu⟩⟩
 · exact h.elim
theorem FR {K:PySem.W.Frag}:nW K (B8 K true) KN:=by
 intro Z tm O ρ σ H x y v w q Q I h1 h2 h k
 have x1:fG x=true→At K H (av Z O) x v:=fun f=>by
  rcases h1 with h | ⟨a,rfl,h⟩
  · exact h
  · cases x <;> first | exact h.elim | (simp only [fG] at f; cases f)
 unfold KN at h
 split at h
 · obtain ⟨f1,f2,h⟩:=h
   obtain ⟨a,vs,rfl,q1,q2⟩:=h2.lst
   obtain ⟨i1,i2,i3⟩:=gj f2 f1 q2 (x1 f1)
   exact .inl ⟨a,vs,rfl,.inl q1,i2,i1,k _ h _ H (aJ.refl H) ⟨I,by rw [if_pos rfl,i3]; exact cu⟩⟩
 · obtain ⟨f1,f2,h⟩:=h
   obtain ⟨a,vs,rfl,q1,q2⟩:=h2.tup
   obtain ⟨i1,i2,i3⟩:=gj f2 f1 q2 (x1 f1)
   exact .inl ⟨a,vs,rfl,.inr q1,i2,i1,k _ h _ H (aJ.refl H) ⟨I,by rw [if_pos rfl,i3]; exact cu⟩⟩
 · obtain ⟨i,rfl,h⟩:=h
   exact .inr ⟨i,_,h1.str,h2.str,k _ h _ H (aJ.refl H) ⟨I,by rw [if_pos rfl]; exact cu⟩⟩
 · exact h.elim
theorem Ia (ha:VR X Z a fa) (hb:VR X Z b fb) (hm:behindInMarks .In b=false:=by rfl):VP X Z (.Compare a [.In] [b] pos) (f2 fa fb Ou):=nX wo wq ha hb hm
theorem KO (ha:VR X Z a fa) (hb:VR X Z b fb) (hm:behindInMarks .NotIn b=false:=by rfl):VP X Z (.Compare a [.NotIn] [b] pos) (f2 fa fb KN):=nX zw FR ha hb hm
theorem uC (ha:VR X Z a fa) (hb:VR X Z b fb) (hm:behindInMarks .In b=false:=by rfl):VC X Z (.Compare a [.In] [b] pos) (qm (f2 fa fb Ou)):=jO wo wq ha hb hm
def B9:T→Bool
 | .bh=>true
 | _=>false
def Tj (x y:T) (q:Rt→Prop):Prop:=match y with
 | .bh=>q (.vw (.bl (B9 x)))
 | _=>False
def wt (x y:T) (q:Rt→Prop):Prop:=match y with
 | .bh=>q (.vw (.bl (!B9 x)))
 | _=>False
theorem yz {K:PySem.W.Frag} {H:Hp} {A:List Addr} {t:T} {v:V} (h:gD K H A t v):decide (v = .bh)=B9 t:=by
 cases t with
 | bh=>rw [h.bh]; rfl
 | bl b=>rw [h.bl]; rfl
 | int b=>rw [h.int]; rfl
 | str b=>rw [h.str]; rfl
 | ob b=>rw [h.ob]; rfl
 | ty b =>
   have:v = .ty b:=h.elim (fun q=>by simpa only [At] using q) fun ⟨_,_,q⟩=>q.elim
   rw [this]; rfl
 | tup l=>obtain ⟨a,vs,rfl,_⟩:=h.tup; rfl
 | lst l=>obtain ⟨a,vs,rfl,_⟩:=h.lst; rfl
 | dk ks l=>obtain ⟨a,vs,rfl,_⟩:=h.dk; rfl
 | dt ks l=>obtain ⟨a,vs,rfl,_⟩:=h.dt; rfl
 | df o ks l=>obtain ⟨a,vs,rfl,_⟩:=h.df; rfl
 | dz o ks l=>obtain ⟨a,vs,rfl,_⟩:=h.dz; rfl
 | kt k=>obtain ⟨a,rfl,_⟩:=h.kt; rfl
 | ins C ns l=>obtain ⟨a,dx,vs,rfl,_⟩:=h.ins; rfl
 | pin a t =>
   have e:v = .ref a:=h.elim (fun q=>by simp only [At] at q; exact q.1) fun ⟨_,_,q⟩=>q.elim
   rw [e]; rfl
theorem KP {K:PySem.W.Frag}:nW K (fun x y H Q=>y = .bh∧Q (.bl (decide (x = .bh))) H) Tj:=by
 intro Z tm O ρ σ H x y v w q Q I h1 h2 h k
 unfold Tj at h
 split at h
 · exact ⟨h2.bh,k _ h _ H (aJ.refl H) ⟨I,by rw [yz h1]; exact cu⟩⟩
 · exact h.elim
theorem zx {K:PySem.W.Frag}:nW K (fun x y H Q=>y = .bh∧Q (.bl (!decide (x = .bh))) H) wt:=by
 intro Z tm O ρ σ H x y v w q Q I h1 h2 h k
 unfold wt at h
 split at h
 · exact ⟨h2.bh,k _ h _ H (aJ.refl H) ⟨I,by rw [yz h1]; exact cu⟩⟩
 · exact h.elim
theorem uD (ha:VR X Z a fa) (hb:VR X Z b fb):VC X Z (.Compare a [.Is] [b] pos) (qm (f2 fa fb Tj)):=jO JF KP ha hb (iF _)
theorem B_ (ha:VR X Z a fa) (hb:VR X Z b fb):VC X Z (.Compare a [.IsNot] [b] pos) (qm (f2 fa fb wt)):=jO E2 zx ha hb (iF _)
theorem uE {g g':Int→Int→Bool} {tm:List (T×V)} {σ:St} {H:Hp} {Q:VK} (h:lP X Z tm (f3 fa fb MB (Kg g) (Kg g')) σ H Q):vX (rV fun i j=>.bl (g i j)) (rV fun i j=>.bl (g' i j)) (lR X Z tm fa) (lR X Z tm fb) (lR X Z tm MB) σ H Q:=by
 obtain ⟨ρ,O,q,I,hf,k⟩:=h
 refine ⟨ρ,O,_,I,hf,fun x hx v H1 s1 a1=>⟨ρ,O,_,I.same s1,hx,fun y hy w H2 s2 a2=>?_⟩⟩
 have J:=(I.same s1).same s2
 unfold Kg at hy
 split at hy
 · rename_i i j
   refine ⟨i,j,(a1.same s2).int,a2.int,_,rfl,?_⟩
   cases e:g i j with
   | true =>
     rw [e] at hy
     refine N1 ⟨ρ,O,_,J,hy,fun z hz w3 H3 s3 a3=>?_⟩
     split at hz
     · rename_i e1
       cases e1
       exact ⟨_,_,(a2.same s3).int,a3.int,k _ hz _ H3 ((s1.trans s2).trans s3) ⟨J.same s3,cu⟩⟩
     · exact hz.elim
   | false =>
     rw [e] at hy
     exact N0 (k _ hy _ H2 (s1.trans s2) ⟨J,cu⟩)
 · exact hy.elim
theorem B' {op vY:CmpOp} {g g':Int→Int→Bool} (ho:dY X (compareOp op) (rV fun i j=>.bl (g i j))) (vQ:dY X (compareOp vY) (rV fun i j=>.bl (g' i j))) (ha:VR X Z a fa) (hb:VR X Z b fb) (hc:VR X Z c MB)
 (hm:lastMarks [op,vY] [b,c]=false:=by with_unfolding_all rfl):VP X Z (.Compare a [op,vY] [b,c] pos) (f3 fa fb MB (Kg g) (Kg g')):=.mk fun tm=>PE.weak (BA ho vQ (ha tm) (hb tm) (hc tm) hm) fun σ H Q h=>uE h
theorem uF {op vY:CmpOp} {g g':Int→Int→Bool} (ho:dY X (compareOp op) (rV fun i j=>.bl (g i j))) (vQ:dY X (compareOp vY) (rV fun i j=>.bl (g' i j))) (ha:VR X Z a fa) (hb:VR X Z b fb) (hc:VR X Z c MB)
  (hm:lastMarks [op,vY] [b,c]=false:=by with_unfolding_all rfl):VC X Z (.Compare a [op,vY] [b,c] pos) (qm (f3 fa fb MB (Kg g) (Kg g'))):=.mk fun tm=>PT.weak (BB ho vQ (ha tm) (hb tm) (hc tm) hm) fun σ H Q ⟨ρ,O,q,I,hf,k⟩ =>
 uE ⟨ρ,O,_,I,hf,fun t ht u H' s a=>by
  obtain ⟨c,rfl,hc⟩:=wj ht
  have e:=a.2
  simp only [At] at e
  exact ⟨c,e,k c hc H' s⟩⟩
def ml (ts:List T):List T:=ts.mapIdx fun i t=>.tup [.int (i:Int),t]
def Ov (f:FE):FI:=fun ρ Q=>f ρ fun t=>match t with
 | .lst ts=>Q (ml ts)
 | _=>False
theorem FT {K:PySem.W.Frag} {a:Addr} {ts:List T}:Wk K (SE K a) [(.lst ts,.ref a)] (ml ts):=fun H A hA h i=>by
 have h:=h _ jz
 simp only [At] at h
 obtain ⟨b,vs,e,l,q⟩:=h
 cases e
 have hl:=q.length
 have hle:(ml ts).length=ts.length:=by unfold ml; rw [List.length_mapIdx]
 rw [hle]
 refine ⟨fun hi=>⟨vs,vs[i]'(by omega),l.sq,by simp⟩,fun hi=>⟨vs,l.sq,by omega⟩,fun t ht x H' y=>?_⟩
 obtain ⟨p,u,hp,rfl,hu,rfl⟩:=y
 unfold ml at ht
 rw [List.getElem?_mapIdx] at ht
 cases e:ts[i]? with
 | none=>rw [e] at ht; cases ht
 | some t' =>
   rw [e] at ht
   cases ht
   obtain ⟨v,e1,e2⟩:=q.get e
   have:=hu vs l.sq
   rw [e1] at this
   cases this
   exact ⟨aS hp,bz (dw.of aU) (aG.cons bE (aG.cons (e2.same (aS hp)) aG.nil))⟩
theorem jg {elts:List Expr} {x1} {tp:Pos} (hg:Gl X "enumerate") (hm:X.mg "enumerate" = none) (ha:VE X Z a fa) (hs:starEach [a] X.env=[(false,eval a X.env)]:=by rfl) :
  VI X Z (.Tuple elts x1 tp) (.Call (.Name "enumerate" p) [a] [] pos) (Ov fa):=.mk fun tm=>PI.weak (Fl hg hm (bu (ha tm) cR hs) hs) fun σ H R ⟨ρ,O,q,I,hf,k⟩=>⟨ρ,O,_,I,hf,fun t ht v H' s a=>by
 split at ht
 · have a0:=a
   simp only [At] at a
   obtain ⟨p,vs,rfl,l,_⟩:=a
   exact ⟨p,rfl,⟨vs,l.sq⟩,k _ ht _ H' _ s (fun p hp=>by rw [x6.mp hp]; exact a0) FT⟩
 · exact ht.elim⟩
def bY:List T→Option (List Bool)
 | []=>some []
 | .bl b :: ts=>(bY ts).map (b :: ·)
 | _=>none
def intsOf:List T→Option (List Int)
 | []=>some []
 | .int b :: ts=>(intsOf ts).map (b :: ·)
 | _=>none
theorem Ca {K:PySem.W.Frag} {H:Hp} {A:List Addr}:∀ {ts:List T} {bs:List Bool} {vs:List V},bY ts=some bs→aG K H A ts vs→vs=bs.map V.bl
 | [],bs,vs,e,h=>by simp only [bY] at e; cases e; simp only [aG] at h; rw [h]; rfl
 | .bl b :: ts,bs,vs,e,h=>by
   simp only [bY] at e
   cases q:bY ts with
   | none=>rw [q] at e; cases e
   | some cs =>
     rw [q] at e
     cases e
     simp only [aG,At] at h
     obtain ⟨v,r,rfl,rfl,h⟩:=h
     rw [Ca q h]; rfl
 | .bh :: _,_,_,e,_=>by simp [bY] at e
 | .int _ :: _,_,_,e,_=>by simp [bY] at e
 | .str _ :: _,_,_,e,_=>by simp [bY] at e
 | .tup _ :: _,_,_,e,_=>by simp [bY] at e
 | .lst _ :: _,_,_,e,_=>by simp [bY] at e
 | .dk _ _ :: _,_,_,e,_=>by simp [bY] at e
 | .dt _ _ :: _,_,_,e,_=>by simp [bY] at e
 | .df _ _ _ :: _,_,_,e,_=>by simp [bY] at e
 | .dz _ _ _ :: _,_,_,e,_=>by simp [bY] at e
 | .kt _ :: _,_,_,e,_=>by simp [bY] at e
 | .ins _ _ _ :: _,_,_,e,_=>by simp [bY] at e
 | .pin _ _ :: _,_,_,e,_=>by simp [bY] at e
 | .ob _ :: _,_,_,e,_=>by simp [bY] at e
 | .ty _ :: _,_,_,e,_=>by simp [bY] at e
theorem yA {K:PySem.W.Frag} {H:Hp} {A:List Addr}:∀ {ts:List T} {bs:List Int} {vs:List V},intsOf ts=some bs→aG K H A ts vs→vs=bs.map V.int
 | [],bs,vs,e,h=>by simp only [intsOf] at e; cases e; simp only [aG] at h; rw [h]; rfl
 | .int b :: ts,bs,vs,e,h=>by
   simp only [intsOf] at e
   cases q:intsOf ts with
   | none=>rw [q] at e; cases e
   | some cs =>
     rw [q] at e
     cases e
     simp only [aG,At] at h
     obtain ⟨v,r,rfl,rfl,h⟩:=h
     rw [yA q h]; rfl
 | .bh :: _,_,_,e,_=>by simp [intsOf] at e
 | .bl _ :: _,_,_,e,_=>by simp [intsOf] at e
 | .str _ :: _,_,_,e,_=>by simp [intsOf] at e
 | .tup _ :: _,_,_,e,_=>by simp [intsOf] at e
 | .lst _ :: _,_,_,e,_=>by simp [intsOf] at e
 | .dk _ _ :: _,_,_,e,_=>by simp [intsOf] at e
 | .dt _ _ :: _,_,_,e,_=>by simp [intsOf] at e
 | .df _ _ _ :: _,_,_,e,_=>by simp [intsOf] at e
 | .dz _ _ _ :: _,_,_,e,_=>by simp [intsOf] at e
 | .kt _ :: _,_,_,e,_=>by simp [intsOf] at e
 | .ins _ _ _ :: _,_,_,e,_=>by simp [intsOf] at e
 | .pin _ _ :: _,_,_,e,_=>by simp [intsOf] at e
 | .ob _ :: _,_,_,e,_=>by simp [intsOf] at e
 | .ty _ :: _,_,_,e,_=>by simp [intsOf] at e
def Ow (ts:List T) (q:Rt→Prop):Prop:=match ts with
 | [.lst l]=>∃ bs,bY l=some bs∧q (.vw (.bl (bs.all id)))
 | _=>False
theorem jh {K:PySem.W.Frag}:n6 K (fun xs H Q=>∃ (p:Addr) (bs:List Bool),xs=[.ref p]∧eI K H p (bs.map V.bl)∧Q (.bl (bs.all id)) H) Ow:=by
 intro Z tm O ρ σ H ts vs q Q I h hp k
 unfold Ow at hp
 split at hp
 · obtain ⟨bs,e,hp⟩:=hp
   obtain ⟨v,rfl,a⟩:=cA h
   obtain ⟨p,ws,rfl,q1,q2⟩:=a.lst
   rw [Ca e q2] at q1
   exact ⟨p,bs,rfl,q1,k _ hp _ H (aJ.refl H) ⟨I,cu⟩⟩
 · exact hp.elim
def Oy (ts:List T) (q:Rt→Prop):Prop:=match ts with
 | [.lst l]=>∃ ns,intsOf l=some ns∧q (.vw (.int ns.sum))
 | _=>False
theorem zy {K:PySem.W.Frag}:n6 K (fun xs H Q=>∃ (p:Addr) (ns:List Int),xs=[.ref p]∧eI K H p (ns.map V.int)∧Q (.int ns.sum) H) Oy:=by
 intro Z tm O ρ σ H ts vs q Q I h hp k
 unfold Oy at hp
 split at hp
 · obtain ⟨bs,e,hp⟩:=hp
   obtain ⟨v,rfl,a⟩:=cA h
   obtain ⟨p,ws,rfl,q1,q2⟩:=a.lst
   rw [yA e q2] at q1
   exact ⟨p,bs,rfl,q1,k _ hp _ H (aJ.refl H) ⟨I,bE⟩⟩
 · exact hp.elim
end
structure Df (K:PySem.W.Frag) (mg:Str→Option Value) (x:Str) (st:Stmt) (ps:List Str) (f:Addr) (fd:FuncData):Prop where
 F:Bf K x x st f fd
 m:mg x=some (.ref f)
 b:Binds K fd ps []
def bW (P:Program) (w:World) (K:PySem.W.Frag) (mg:Str→Option Value) (base:Heap) (x:Str) (ps:List Str) (k:Nat) (sp:Sp):Prop :=
 ∃ f fd,mg x=some (.ref f)∧PySem.W.keepIn K (.ref f)=true∧Binds K fd ps []∧cD P w K mg base iK k f fd ps sp
theorem Df.ji {P:Program} {w:World} {K:PySem.W.Frag} {mg:Str→Option Value} {base:Heap} {x:Str} {st:Stmt} {ps:List Str} {f:Addr} {fd:FuncData} {k:Nat} {sp:Sp} (D:Df K mg x st ps f fd) (F:cD P w K mg base iK k f fd ps sp):bW P w K mg base x ps k sp :=
 ⟨f,fd,D.m,D.F.kp,D.b,F⟩
theorem ka {H:Hp} {Ox:List Addr} {i:Nat}:aY ⟨H,[],Ox⟩ i:=fun _ z=>nomatch z
section
variable {P:Program} {w:World} {K:PySem.W.Frag} {mg:Str→Option Value} {base:Heap}
theorem jU {x qual:Str} {st:Stmt} {f:Addr} {fd:FuncData} {N ps:List Str} {k n:Nat} {G:List T→(Rt→Prop)→Prop} (F:Bf K x qual st f fd) (S:aI N ps (aj st)) (hn:n=ps.length)
  (iG:∀ (bD:Value) (A:Around) (outer:List Env) (s:Shared) (H:Hp) (E:XK) (Ox:List Addr),bp k (A.deeper (envOfC qual (aj st) s.heap.objs.size f bD))→∀ ts q,G ts q →
    ∃ g,ky (dB iK P w K mg base N qual (aj st) f bD A outer s H E).ni ⟨H,[],Ox⟩ (cf st) g∧(ts.length=n→g { nx:=fun _=>q (.vw .bh),rt:=fun _ r=>q r } (ts.map (fun t=>some (t,false)) ++ List.replicate (N.length - ts.length) none))) :
  cD P w K mg base iK (k+1) f fd ps (bS K n G):=by
 have hp:∀ n (as:List Addr) k,pz (List.replicate n false) as k=[]:=by
  intro n
  induction n with
  | zero=>intro as k; rfl
  | succ n ih=>intro as k; exact ih as (k+1)
 have W7:∀ n (ρ:En),lC (List.replicate n false) ρ=[]:=by
  intro n
  induction n with
  | zero=>intro ρ; rfl
  | succ n ih=>intro ρ; exact ih ρ.tail
 have he:∀ n (ts:List T),ts.length=n→si (List.replicate n false) ts=ts.map fun t=>some (t,false):=by
  intro n
  induction n with
  | zero=>intro ts e; cases ts <;> simp_all [si]
  | succ n ih =>
    intro ts e
    cases ts with
    | nil=>simp at e
    | cons t ts=>rw [List.replicate_succ,si,ih ts (by simpa using e)]; rfl
 refine Tg F S (by rw [EF]; exact hn) fun bD A outer s H E as Ox hr ts q hl hG=>?_
 rw [EF] at hl
 obtain ⟨g,h1,h2⟩:=iG bD A outer s H E Ox hr ts (q []) hG
 refine ⟨g,by rw [hp]; exact h1,?_⟩
 rw [he n ts hl]
 simp only [W7]
 exact h2 hl
end
theorem bp.fz {k:Nat} {A:Around} (r:bp k A):A.units+101 < cLine:=by have:=r.un; omega
theorem sG:bootBuiltins "list" = some (.type "list"):=by decide +kernel
theorem nC:bootBuiltins "tuple" = some (.type "tuple"):=by decide +kernel
theorem yB:bootBuiltins "all" = some (.builtin "all"):=by decide +kernel
theorem Oz:bootBuiltins "sum" = some (.builtin "sum"):=by decide +kernel
theorem Ib:bootBuiltins "int" = some (.type "int"):=by decide +kernel
theorem Cb:bootBuiltins "bool" = some (.type "bool"):=by decide +kernel
theorem Cc:bootBuiltins "str" = some (.type "str"):=by decide +kernel
theorem nD:∀ {fs:List Bool} {as:List Addr} {k:Nat},∀ p∈pz fs as k,k≤p.1∧fs[p.1 - k]?=some true
 | [],_,_,p,hp=>nomatch hp
 | false :: fs,as,k,p,hp=>by
   obtain ⟨h1,h2⟩:=nD (fs:=fs) (as:=as) (k:=k+1) p hp
   refine ⟨by omega,?_⟩
   have:p.1 - k=(p.1 - (k+1))+1:=by omega
   rw [this]; simpa using h2
 | true :: fs,a :: as,k,p,hp=>by
   rcases dS.mp hp with z | z
   · subst z; exact ⟨du _,by simp⟩
   · obtain ⟨h1,h2⟩:=nD (fs:=fs) (as:=as) (k:=k+1) p z
     refine ⟨by omega,?_⟩
     have:p.1 - k=(p.1 - (k+1))+1:=by omega
     rw [this]; simpa using h2
 | true :: fs,[],k,p,hp=>by
   obtain ⟨h1,h2⟩:=nD (fs:=fs) (as:=[]) (k:=k+1) p hp
   refine ⟨by omega,?_⟩
   have:p.1 - k=(p.1 - (k+1))+1:=by omega
   rw [this]; simpa using h2
theorem Cd {H:Hp} {fs:List Bool} {as Ox:List Addr} {i:Nat} (h:fs[i]?≠some true):aY ⟨H,pz fs as 0,Ox⟩ i:=fun p hp e=>by
 have:=(nD p hp).2
 rw [Nat.sub_zero,e] at this
 exact h this
theorem oA (lo:Int) (n:Nat):(rangeT lo n).length=n:=by unfold rangeT; rw [b_,EG]
theorem oB {lo:Int} {n i:Nat} {t:T} (h:(rangeT lo n)[i]?=some t):i < n∧t = .int (lo+(i:Int)):=by
 unfold rangeT at h
 rw [k9] at h
 cases e:(List.range n)[i]? with
 | none=>rw [e] at h; cases h
 | some j =>
   rw [e] at h
   obtain ⟨h1,h2⟩:=gh.mp e
   rw [List.getElem_range] at h2
   rw [EG] at h1
   subst h2
   cases h
   exact ⟨h1,rfl⟩
theorem cT {lo:Int} {n:Nat} {h:FG} {g:FS} {d:HV} {ρ:En} (Pv:Nat→En→Prop) (h0:Pv 0 ρ) (hs:∀ (i:Nat) ρ',i < n→Pv i ρ'→h (.int (lo+(i:Int))) ρ' fun ρ2=>g { nx:=Pv (i+1),ct:=Pv (i+1),bk:=d.nx,rt:=d.rt } ρ2)
 (hd:∀ ρ',Pv n ρ'→d.nx ρ'):q_ (rangeT lo n) h g d ρ:=⟨Pv,h0,fun i t ρ' e p=>by obtain ⟨h1,rfl⟩:=oB e; exact hs i ρ' h1 p,fun ρ' p=>hd ρ' (by rw [oA] at p; exact p)⟩
theorem oE {α:Type} {f:α→T} {xs:List α} {h:FG} {g:FS} {d:HV} {ρ:En} (Pv:Nat→En→Prop) (h0:Pv 0 ρ) (hs:∀ (i:Nat) x ρ',xs[i]?=some x→Pv i ρ'→h (f x) ρ' fun ρ2=>g { nx:=Pv (i+1),ct:=Pv (i+1),bk:=d.nx,rt:=d.rt } ρ2)
 (hd:∀ ρ',Pv xs.length ρ'→d.nx ρ'):q_ (xs.map f) h g d ρ:=⟨Pv,h0,fun i t ρ' e p=>by
   rw [k9] at e
   cases q:xs[i]? with
   | none=>rw [q] at e; cases e
   | some x=>rw [q] at e; cases e; exact hs i x ρ' q p,fun ρ' p=>hd ρ' (by rw [b_] at p; exact p)⟩
theorem KQ {c:Bool} {A B:Prop} (hc:c=true) (h:A):if c=true then A else B:=by rw [if_pos hc]; exact h
theorem dH {c:Bool} {A B:Prop} (hc:c=false) (h:B):if c=true then A else B:=by rw [if_neg (by rw [hc]; exact nL)]; exact h
theorem bP {c A B:Prop} [Decidable c] (h1:c→A) (h2:¬ c→B):if decide c=true then A else B:=by
 by_cases h:c
 · rw [if_pos (decide_eq_true h)]; exact h1 h
 · rw [if_neg (by rw [decide_eq_false h]; exact nL)]; exact h2 h
section
variable {prog:Program} {w:World} {A:Around} {E:Value→Shared→Prop} {s:Shared}
theorem kC {it t:Addr} {i:Nat} {items:Array Value} {x:Value} {Q:Value→Shared→Prop} (hit:s.heap.IsTupleIter it t i) (ht:s.heap.IsTuple t items) (hx:items[i]?=some x)
  (hQ:∀ h',h'.IsTupleIter it t (i+1)→Heap.SameBut it s.heap h'→Q x { s with heap:=h' }):wpAny (model prog w) A (Builtin.SmallTypes.nextOf (.ref it)) Q E s:=by
 obtain ⟨o,ho,hc,hd⟩:=id hit
 obtain ⟨ol,FU,_,nl,FV⟩:=ht
 unfold Builtin.SmallTypes.nextOf
 refine wpAny_bind (wpAny_callSpecial?_slot (name:=Str.ofString "__next__") hit.typeIs QA
  (wpAny_call_entry QA hit.typeIs F.entry_tuple_iterator_next ?_ (F.args_tuple_iterator_next_1 _)))
 show wpAny _ _ (field (.ref it) 0 >>= _) _ _ s
 refine wpAny_bind (wpAny_field ho hd (x:=.ref t) rfl ?_)
 show wpAny _ _ (if (Value.ref t == Value.none)=true then _ else _) _ _ s
 rw [if_neg (show ¬ ((Value.ref t == Value.none)=true) from nL)]
 show wpAny _ _ (field (.ref it) 1 >>= _) _ _ s
 refine wpAny_bind (wpAny_field ho hd (x:=.int i 0) rfl ?_)
 show wpAny _ _ (seqItems? (.ref t) >>= _) _ _ s
 refine wpAny_bind (wpAny_seqItems FU FV ?_)
 simp only [Eg,hx]
 refine wpAny_bind (wpAny_setField ho hd (by simp) (wpAny_pure ⟨x,rfl,wpAny_pure (hQ _ ?_ (Heap.SameBut.update ..))⟩))
 exact ⟨_,IS _ ho (M0 (IT hd _)),(Obj.cls_mapFields ..).trans hc,by
  rw [IT hd]; simp [rawInt]⟩
theorem lK {it t:Addr} {i:Nat} {items:Array Value} {Q:Value→Shared→Prop} (hh:A.handled=none) (hit:s.heap.IsTupleIter it t i) (ht:s.heap.IsTuple t items) (hx:items[i]?=none)
  (hE:∀ h' e,Heap.ExtBut it s.heap h'→(∃ o,h'.get? e=some o∧o.cls = .type "StopIteration")→E (.ref e) { s with heap:=h' }):wpAny (model prog w) A (Builtin.SmallTypes.nextOf (.ref it)) Q E s:=by
 obtain ⟨o,ho,hc,hd⟩:=id hit
 obtain ⟨ol,FU,_,nl,FV⟩:=ht
 unfold Builtin.SmallTypes.nextOf
 refine wpAny_bind (wpAny_callSpecial?_slot (name:=Str.ofString "__next__") hit.typeIs QA
  (wpAny_call_entry QA hit.typeIs F.entry_tuple_iterator_next ?_ (F.args_tuple_iterator_next_1 _)))
 show wpAny _ _ (field (.ref it) 0 >>= _) _ _ s
 refine wpAny_bind (wpAny_field ho hd (x:=.ref t) rfl ?_)
 show wpAny _ _ (if (Value.ref t == Value.none)=true then _ else _) _ _ s
 rw [if_neg (show ¬ ((Value.ref t == Value.none)=true) from nL)]
 show wpAny _ _ (field (.ref it) 1 >>= _) _ _ s
 refine wpAny_bind (wpAny_field ho hd (x:=.int i 0) rfl ?_)
 show wpAny _ _ (seqItems? (.ref t) >>= _) _ _ s
 refine wpAny_bind (wpAny_seqItems FU FV ?_)
 simp only [Eg,hx]
 refine wpAny_bind (wpAny_rule (wpAny_bind (wpAny_setField ho hd (by simp) ?_)))
 show wpAny _ _ (newExc (.type "StopIteration") [] >>= _) _ _ _
 refine wpAny_bind ?_
 simp only [newExc,newTuple]
 refine wpAny_bind (wpAny_newObj_type ?_ (by size_fits))
 refine wpAny_bind (m:=firstArgMember _ _) (wpAny_of_eq (a:=Value.none) (by first | rfl | (simp only [firstArgMember]; rfl)) ?_)
 refine wpAny_newObj_type ?_ (by size_fits)
 simp only [raiseNew]
 refine wpAny_bind (wpAny_handled ?_)
 first | rw [show A.in1.handled=none from hh] | rw [hh]
 refine wpAny_bind (wpAny_pure (wpAny_throw ?_))
 exact hE _ _ (((Heap.SameBut.update ..).extBut.push _).push _) ⟨_,m9 _ rfl,rfl⟩
end
structure Part (prog:Program) (w:World) (i:Addr) (fp:List Addr) (n:Nat) (Pv:Nat→Value→Prop) (st:Nat→Heap→Prop):Prop where
 draws:∀ A:Around,A.handled=none→Draws prog w A i fp n Pv st
 mem:i∈fp
 fld:∀ k h,st k h→∃ o vs,h.get? i=some o∧o.data = .fields vs
theorem zA {prog:Program} {w:World} (it l:Addr) (pZ:l≠it) (items:Array Value):Part prog w it [it,l] items.size (fun i v=>items[i]?=some v) (fun i h=>h.IsListIter it l i∧h.IsList l items) :=
 ⟨fun A hh=>Draws.list hh it l pZ items,by simp,fun k h st=>let ⟨⟨o,e,_,d⟩,_⟩:=st; ⟨o,_,e,d⟩⟩
theorem wu {prog:Program} {w:World} (it l:Addr) (pZ:l≠it) (items:Array Value):Part prog w it [it,l] items.size (fun i v=>items[i]?=some v) (fun i h=>h.IsTupleIter it l i∧h.IsTuple l items) :=
 ⟨fun A hh=>{ live:=fun _ _ st=>let ⟨o,ho,_⟩:=st.1; ⟨o,ho⟩
              frame:=fun _ _ _ st hk=>⟨let ⟨o,ho,r⟩:=st.1; ⟨o,hk it (by simp) o ho,r⟩,let ⟨o,ho,r⟩:=st.2; ⟨o,hk l (by simp) o ho,r⟩⟩
              item:=fun i s Q E hi st hQ=>kC st.1 st.2 (x:=items[i]) (by simp [hi]) fun h' Tn Q5=>hQ _ h' s.toks (by simp [hi]) ⟨Tn,st.2.extBut Q5.extBut pZ⟩ Q5
              done:=fun s Q E st hE=>lK hh st.1 st.2 (by simp) hE },by simp,fun k h st=>let ⟨⟨o,e,_,d⟩,_⟩:=st; ⟨o,_,e,d⟩⟩
theorem Ce {prog:Program} {w:World} (it:Addr) (x:Str) (t:Tok):Part prog w it [it] x.cps.size (fun i v=>∃ c u,x.cps[i]?=some c∧v = .str ⟨#[c]⟩ u) (fun i h=>h.IsStrIter it (strIterType x) x t i):=by
 rcases cJ x with z | z
 · rw [z]; exact ⟨fun A hh=>Draws.strAscii hh it x t,by simp,fun k h st=>let ⟨o,e,_,d⟩:=st; ⟨o,_,e,d⟩⟩
 · rw [z]; exact ⟨fun A hh=>Draws.strWide hh it x t,by simp,fun k h st=>let ⟨o,e,_,d⟩:=st; ⟨o,_,e,d⟩⟩
structure Apart (z TI TO i1 i2:Addr) (oF nE:List Addr):Prop where
 TIz:TI≠z
 TOz:TO≠z
 i1z:i1≠z
 i2z:i2≠z
 TITO:TI≠TO
 TIi1:TI≠i1
 TIi2:TI≠i2
 TOi1:TO≠i1
 TOi2:TO≠i2
 i12:i1≠i2
 z1:z∉oF
 z2:z∉nE
 O1:TO∉oF
 O2:TO∉nE
 x1:i2∉oF
 x2:i1∉nE
section
variable {prog:Program} {w:World} {A:Around} {E:Value→Shared→Prop} {s:Shared} {z TI TO i1 i2:Addr} {oF nE:List Addr} {n1 n2:Nat} {P1 P2:Nat→Value→Prop} {S1 S2:Nat→Heap→Prop}
theorem Cf {k:Nat} {a b:Value} {Q:Value→Shared→Prop} (hh:A.handled=none) (D:Apart z TI TO i1 i2 oF nE) (p1:Part prog w i1 oF n1 P1 S1) (p2:Part prog w i2 nE n2 P2 S2)
  (hz:IsZip s.heap z TI TO .none) (FW:IsPair s.heap TI (.ref i1) (.ref i2)) (FY:IsPair s.heap TO a b) (h1:S1 k s.heap) (h2:S2 k s.heap) (hx:k < n1) (hy:k < n2)
  (hQ:∀ x y h' tk,P1 k x→P2 k y→IsZip h' z TI TO (rawInt s.heap.objs.size)→IsPair h' TO x y→S1 (k+1) h'→S2 (k+1) h'→IsPair h' s.heap.objs.size x y→h'.objs.size=s.heap.objs.size+1 →
    (∀ c o,c≠z→c≠TO→c≠i1→c≠i2→s.heap.get? c=some o→h'.get? c=some o)→Q (.ref s.heap.objs.size) { s with heap:=h',toks:=tk }) :
  wpAny (model prog w) A (Builtin.«zip.__next__» ⟨[.ref z],[]⟩) (fun fin s'=>∃ v,fin = .done (.ret v)∧Q v s') E s:=by
 show wpAny _ _ (field (.ref z) 2 >>= _) _ _ _
 refine wpAny_bind (wpAny_field hz rfl (x:=.bool false) rfl ?_)
 show wpAny _ _ (field (.ref z) 3 >>= _) _ _ _
 refine wpAny_bind (wpAny_field hz rfl (x:=.ref TI) rfl ?_)
 refine wpAny_bind (wpAny_seqItems FW rfl ?_)
 show wpAny _ _ (Builtin.SmallTypes.ownedTupleIsFree (.ref z) >>= _) _ _ _
 refine wpAny_bind ?_
 unfold Builtin.SmallTypes.ownedTupleIsFree
 refine wpAny_bind (wpAny_field hz rfl (x:=.none) rfl (wpAny_pure ?_))
 simp only [if_true]
 refine wpAny_bind (wpAny_rule ?_)
 refine wpAny_bind (wpAny_field hz rfl (x:=.ref TO) rfl ?_)
 refine wpAny_bind (wpAny_setField_rec hz (by simp) fun h₁ BP Bg=>?_)
 replace BP:IsZip h₁ z TI TO .ellipsis:=BP
 refine wpAny_bind ?_
 simp only [List.zipIdx_cons,List.zipIdx_nil,List.forIn_cons,List.forIn_nil]
 have f1:∀ {m h h' c},c∉oF→S1 m h→Heap.SameBut c h h'→S1 m h':=fun {m h h' c} hc st sb=>(p1.draws A hh).frame m h h' st fun b hb o e=>sb.extBut b o (fun q=>hc (q▸hb)) e
 have f2:∀ {m h h' c},c∉nE→S2 m h→Heap.SameBut c h h'→S2 m h':=fun {m h h' c} hc st sb=>(p2.draws A hh).frame m h h' st fun b hb o e=>sb.extBut b o (fun q=>hc (q▸hb)) e
 refine wpAny_bind (wpAny_bind (wpAny_onRaise ?_))
 show wpAny _ _ (Builtin.SmallTypes.nextOf (.ref i1) >>= _) _ _ _
 refine wpAny_bind ((p1.draws _ hh).item k _ _ _ hx (f1 D.z1 h1 Bg) fun x h₂ W8 px Vy qh=>wpAny_pure ?_)
 replace qh:Heap.SameBut i1 h₁ h₂:=qh
 have Cg:IsPair h₂ TO a b:=qh.extBut _ _ D.TOi1 (Bg.extBut _ _ D.TOz FY)
 refine wpAny_bind (wpAny_seqItems Cg rfl ?_)
 refine wpAny_bind (wpAny_updateSeq_pair Cg fun h₃ FZ vM=>?_)
 replace FZ:IsPair h₃ TO x b:=FZ
 replace vM:Heap.SameBut TO h₂ h₃:=vM
 refine wpAny_bind (wpAny_letGo (wpAny_pure ?_))
 refine wpAny_bind (wpAny_bind (wpAny_onRaise ?_))
 show wpAny _ _ (Builtin.SmallTypes.nextOf (.ref i2) >>= _) _ _ _
 refine wpAny_bind ((p2.draws _ hh).item k _ _ _ hy (f2 D.O2 (f2 D.x2 (f2 D.z2 h2 Bg) qh) vM) fun y h₄ W9 py W_ Et=>wpAny_pure ?_)
 replace Et:Heap.SameBut i2 h₃ h₄:=Et
 have OA:IsPair h₄ TO x b:=Et.extBut _ _ D.TOi2 FZ
 refine wpAny_bind (wpAny_seqItems OA rfl ?_)
 refine wpAny_bind (wpAny_updateSeq_pair OA fun h₅ F0 Eu=>?_)
 replace F0:IsPair h₅ TO x y:=F0
 replace Eu:Heap.SameBut TO h₄ h₅:=Eu
 refine wpAny_bind (wpAny_letGo (wpAny_pure (wpAny_pure ?_)))
 refine wpAny_bind (wpAny_seqItems F0 rfl ?_)
 refine wpAny_bind (wpAny_newTuple ?_)
 have pY:h₅.objs.size=s.heap.objs.size:=by rw [Eu.1,Et.1,vM.1,qh.1,Bg.1]
 have Vz:IsZip h₅ z TI TO .ellipsis:=Eu.extBut _ _ D.TOz.symm (Et.extBut _ _ D.i2z.symm (vM.extBut _ _ D.TOz.symm (qh.extBut _ _ D.i1z.symm BP)))
 have Xa:∀ c o,c≠z→c≠TO→c≠i1→c≠i2→s.heap.get? c=some o→h₅.get? c=some o:=fun c o c1 c2 c3 c4 e =>
  Eu.extBut _ _ c2 (Et.extBut _ _ c4 (vM.extBut _ _ c2 (qh.extBut _ _ c3 (Bg.extBut _ _ c1 e))))
 have Xb:S1 (k+1) h₅:=f1 D.O1 (f1 D.x1 (f1 D.O1 Vy vM) Et) Eu
 have Xc:S2 (k+1) h₅:=f2 D.O2 W_ Eu
 have OB:z < h₅.objs.size:=dq Vz
 show wpAny _ _ (Builtin.SmallTypes.ownedTupleHandOut (.ref z) (.ref h₅.objs.size) >>= _) _ _ _
 refine wpAny_bind ?_
 unfold Builtin.SmallTypes.ownedTupleHandOut
 have Xd:IsZip (h₅.push { cls:=.type "tuple",data:=.seq #[x,y] }) z TI TO .ellipsis:=cY _ Vz
 refine wpAny_bind (wpAny_setField_rec Xd (by simp) fun h₇ To Tp=>?_)
 replace To:IsZip h₇ z TI TO (rawInt h₅.objs.size):=To
 refine wpAny_setField_rec To (by simp) fun h₈ Q6 Tq=>?_
 replace Q6:IsZip h₈ z TI TO (rawInt h₅.objs.size):=Q6
 have up:∀ c o,c≠z→h₅.get? c=some o→h₈.get? c=some o:=fun c o c1 e=>Tq.extBut _ _ c1 (Tp.extBut _ _ c1 (cY _ e))
 have VB:IsPair h₈ h₅.objs.size x y:=Tq.extBut _ _ (A_ OB) (Tp.extBut _ _ (A_ OB) (m9 _ rfl))
 have VF:h₈.objs.size=h₅.objs.size+1:=by rw [Tq.1,Tp.1,vO]
 have Xe:S1 (k+1) h₈:=(p1.draws A hh).frame _ _ _ Xb fun b hb o e=>up b o (fun q=>D.z1 (q▸hb)) e
 have Xf:S2 (k+1) h₈:=(p2.draws A hh).frame _ _ _ Xc fun b hb o e=>up b o (fun q=>D.z2 (q▸hb)) e
 rw [pY] at Q6 VB VF
 refine wpAny_pure ⟨_,rfl,?_⟩
 show Q (.ref h₅.objs.size) _
 rw [pY]
 exact hQ x y h₈ W9 px py Q6 (up _ _ D.TOz F0) Xe Xf VB VF fun c o c1 c2 c3 c4 e=>up c o c1 (Xa c o c1 c2 c3 c4 e)
theorem F1 {k:Nat} {a b:Value} {Q:PySem.Fin→Shared→Prop} (hh:A.handled=none) (D:Apart z TI TO i1 i2 oF nE) (p1:Part prog w i1 oF n1 P1 S1) (p2:Part prog w i2 nE n2 P2 S2)
  (hz:IsZip s.heap z TI TO .none) (FW:IsPair s.heap TI (.ref i1) (.ref i2)) (FY:IsPair s.heap TO a b) (h1:S1 k s.heap) (h2:S2 k s.heap) (KR:k=n1∨(k < n1∧k=n2))
  (hE:∀ h' tk e,(∀ c o,c≠z→c≠TO→c≠i1→c≠i2→s.heap.get? c=some o→h'.get? c=some o)→(∃ o,h'.get? e=some o∧o.cls = .type "StopIteration")→E (.ref e) { s with heap:=h',toks:=tk }) :
  wpAny (model prog w) A (Builtin.«zip.__next__» ⟨[.ref z],[]⟩) Q E s:=by
 have f1:∀ {m h h' c},c∉oF→S1 m h→Heap.SameBut c h h'→S1 m h':=fun {m h h' c} hc st sb=>(p1.draws A hh).frame m h h' st fun b hb o e=>sb.extBut b o (fun q=>hc (q▸hb)) e
 have f2:∀ {m h h' c},c∉nE→S2 m h→Heap.SameBut c h h'→S2 m h':=fun {m h h' c} hc st sb=>(p2.draws A hh).frame m h h' st fun b hb o e=>sb.extBut b o (fun q=>hc (q▸hb)) e
 show wpAny _ _ (field (.ref z) 2 >>= _) _ _ _
 refine wpAny_bind (wpAny_field hz rfl (x:=.bool false) rfl ?_)
 show wpAny _ _ (field (.ref z) 3 >>= _) _ _ _
 refine wpAny_bind (wpAny_field hz rfl (x:=.ref TI) rfl ?_)
 refine wpAny_bind (wpAny_seqItems FW rfl ?_)
 show wpAny _ _ (Builtin.SmallTypes.ownedTupleIsFree (.ref z) >>= _) _ _ _
 refine wpAny_bind ?_
 unfold Builtin.SmallTypes.ownedTupleIsFree
 refine wpAny_bind (wpAny_field hz rfl (x:=.none) rfl (wpAny_pure ?_))
 simp only [if_true]
 refine wpAny_bind (wpAny_rule ?_)
 refine wpAny_bind (wpAny_field hz rfl (x:=.ref TO) rfl ?_)
 refine wpAny_bind (wpAny_setField_rec hz (by simp) fun h₁ BP Bg=>?_)
 replace BP:IsZip h₁ z TI TO .ellipsis:=BP
 refine wpAny_bind ?_
 simp only [List.zipIdx_cons,List.zipIdx_nil,List.forIn_cons,List.forIn_nil]
 refine wpAny_bind (wpAny_bind (wpAny_onRaise ?_))
 show wpAny _ _ (Builtin.SmallTypes.nextOf (.ref i1) >>= _) _ _ _
 rcases KR with rfl | ⟨fN,rfl⟩
 · refine wpAny_bind ((p1.draws _ hh).done _ _ _ (f1 D.z1 h1 Bg) fun h₂ e qh he=>?_)
   obtain ⟨oe,KS,OC⟩:=he
   have Q7:IsZip h₂ z TI TO .ellipsis:=qh _ _ D.i1z.symm BP
   have Tr:e≠z:=fun x=>by subst x; rw [Q7] at KS; cases KS; simp at OC
   refine wpAny_setField_rec Q7 (by simp) fun h₃ _ vM=>hE h₃ _ e (fun c o c1 _ c3 _ x=>vM.extBut _ _ c1 (qh _ _ c3 (Bg.extBut _ _ c1 x))) ⟨oe,vM.extBut _ _ Tr KS,OC⟩
 · refine wpAny_bind ((p1.draws _ hh).item k _ _ _ fN (f1 D.z1 h1 Bg) fun x h₂ W8 px Vy qh=>wpAny_pure ?_)
   replace qh:Heap.SameBut i1 h₁ h₂:=qh
   have Cg:IsPair h₂ TO a b:=qh.extBut _ _ D.TOi1 (Bg.extBut _ _ D.TOz FY)
   refine wpAny_bind (wpAny_seqItems Cg rfl ?_)
   refine wpAny_bind (wpAny_updateSeq_pair Cg fun h₃ FZ vM=>?_)
   replace vM:Heap.SameBut TO h₂ h₃:=vM
   refine wpAny_bind (wpAny_letGo (wpAny_pure ?_))
   refine wpAny_bind (wpAny_bind (wpAny_onRaise ?_))
   show wpAny _ _ (Builtin.SmallTypes.nextOf (.ref i2) >>= _) _ _ _
   refine wpAny_bind ((p2.draws _ hh).done _ _ _ (f2 D.O2 (f2 D.x2 (f2 D.z2 h2 Bg) qh) vM) fun h₄ e Et he=>?_)
   obtain ⟨oe,KS,OC⟩:=he
   have VH:IsZip h₄ z TI TO .ellipsis:=Et _ _ D.i2z.symm (vM.extBut _ _ D.TOz.symm (qh.extBut _ _ D.i1z.symm BP))
   have Tr:e≠z:=fun x=>by subst x; rw [VH] at KS; cases KS; simp at OC
   refine wpAny_setField_rec VH (by simp) fun h₅ _ Eu=>hE h₅ _ e (fun c o c1 c2 c3 c4 x=>Eu.extBut _ _ c1 (Et _ _ c4 (vM.extBut _ _ c2 (qh.extBut _ _ c3 (Bg.extBut _ _ c1 x))))) ⟨oe,Eu.extBut _ _ Tr KS,OC⟩
theorem mJ {k:Nat} {a b:Value} {Q:Option Value→Shared→Prop} (hh:A.handled=none) (D:Apart z TI TO i1 i2 oF nE) (p1:Part prog w i1 oF n1 P1 S1) (p2:Part prog w i2 nE n2 P2 S2)
  (hz:IsZip s.heap z TI TO .none) (FW:IsPair s.heap TI (.ref i1) (.ref i2)) (FY:IsPair s.heap TO a b) (h1:S1 k s.heap) (h2:S2 k s.heap) (hx:k < n1) (hy:k < n2)
  (hQ:∀ x y h' tk,P1 k x→P2 k y→IsZip h' z TI TO (rawInt s.heap.objs.size)→IsPair h' TO x y→S1 (k+1) h'→S2 (k+1) h'→IsPair h' s.heap.objs.size x y→h'.objs.size=s.heap.objs.size+1 →
    (∀ c o,c≠z→c≠TO→c≠i1→c≠i2→s.heap.get? c=some o→h'.get? c=some o)→Q (some (.ref s.heap.objs.size)) { s with heap:=h',toks:=tk }):wpAny (model prog w) A (pyNext (.ref z)) Q E s:=by
 have hT:s.TypeIs (.ref z) "zip":=⟨_,hz,rfl⟩
 unfold pyNext
 exact wpAny_bind (wpAny_attempt (wpAny_callSpecial?_slot (name:=Str.ofString "__next__") hT F.slot_zip_next
  (wpAny_call_entry F.slot_zip_next hT F.entry_zip_next
    (Cf hh D p1 p2 hz FW FY h1 h2 hx hy fun x y h' tk q1 q2 a1 a2 a3 a4 a5 a6 a7=>wpAny_pure (hQ x y h' tk q1 q2 a1 a2 a3 a4 a5 a6 a7)) (F.args_zip_next_1 _))))
theorem oG {k:Nat} {a b:Value} {Q:Option Value→Shared→Prop} (hh:A.handled=none) (D:Apart z TI TO i1 i2 oF nE) (p1:Part prog w i1 oF n1 P1 S1) (p2:Part prog w i2 nE n2 P2 S2)
  (hz:IsZip s.heap z TI TO .none) (FW:IsPair s.heap TI (.ref i1) (.ref i2)) (FY:IsPair s.heap TO a b) (h1:S1 k s.heap) (h2:S2 k s.heap) (KR:k=n1∨(k < n1∧k=n2))
  (hQ:∀ h' tk,(∀ c o,c≠z→c≠TO→c≠i1→c≠i2→s.heap.get? c=some o→h'.get? c=some o)→Q none { s with heap:=h',toks:=tk }):wpAny (model prog w) A (pyNext (.ref z)) Q E s:=by
 have hT:s.TypeIs (.ref z) "zip":=⟨_,hz,rfl⟩
 unfold pyNext
 refine wpAny_bind (wpAny_attempt (wpAny_callSpecial?_slot (name:=Str.ofString "__next__") hT F.slot_zip_next
  (wpAny_call_entry F.slot_zip_next hT F.entry_zip_next (F1 hh D p1 p2 hz FW FY h1 h2 KR fun h' tk e hk he=>?_) (F.args_zip_next_1 _))))
 obtain ⟨o,ho,hc⟩:=he
 refine wpAny_bind (wpAny_isInstance (T:="StopIteration") (b:=true) ⟨o,ho,hc⟩ isSubtype_stop ?_)
 exact wpAny_pure (hQ _ _ hk)
end
def Ts (i:Int):Prop:=i.natAbs < 2 ^ 2000
theorem Ts.of {i:Int} (h1 : -(10 ^ 200)≤i) (h2:i≤10 ^ 200):Ts i:=by
 unfold Ts
 have e:(10:Nat) ^ 200 < 2 ^ 2000:=by decide
 have:i.natAbs≤10 ^ 200:=by
  have e2:((10 ^ 200:Nat):Int)=(10:Int) ^ 200:=by rw [Int.natCast_pow]; rfl
  generalize (10:Nat) ^ 200=m at *
  rw [← e2] at h1 h2
  omega
 exact Nat.lt_of_le_of_lt this e
section
variable {X:Cx}
end
section
variable {X:Cx} {Z:Zc} {a b:Expr} {fa fb:FE} {pos:Pos}
end
def iS (v:Value) (o:Obj) (c:Heap→Prop):Prop:=∀ (prog:Program) (w:World) (A:Around) (E:Value→Shared→Prop) (s:Shared) (Q:Value→Shared→Prop),c s.heap →
 Q (.ref s.heap.objs.size) { s with heap:=s.heap.push o }→wpAny (model prog w) A (pyIter v) Q E s
theorem uG (l:Addr) (items:Array Value):iS (.ref l) { cls:=.type "list_iterator",data:=.fields #[.ref l,.int 0 0] } (fun h=>h.IsList l items):=fun _ _ _ _ _ _ h q=>wpAny_pyIter_list h q
theorem sH (l:Addr) (items:Array Value):iS (.ref l) { cls:=.type "tuple_iterator",data:=.fields #[.ref l,.int 0 0] } (fun h=>h.IsTuple l items):=fun _ _ _ _ _ _ h q=>wpAny_pyIter_tuple h q
theorem wx (x:Str) (t:Tok):iS (.str x t) { cls:=.type (strIterType x),data:=.fields #[.str x t,.int 0 0] } (fun _=>True):=fun _ _ _ _ _ _ _ q=>wpAny_pyIter_strU q
abbrev Q8 (h:Heap) (o1 o2:Obj):Heap:=((h.push o1).push o2).push { cls:=.type "tuple",data:=.seq #[.ref h.objs.size,.ref (h.push o1).objs.size] }
abbrev Q9 (h:Heap) (o1 o2:Obj):Heap:=(Q8 h o1 o2).push { cls:=.type "tuple",data:=.seq #[.none,.none] }
abbrev KU (h:Heap) (o1 o2:Obj):Heap:=(Q9 h o1 o2).push { cls:=.type "zip",data:=.fields #[.none,.bool false,.bool false,.ref ((h.push o1).push o2).objs.size,.ref (Q8 h o1 o2).objs.size] }
theorem wy {v1 v2:Value} {o1 o2:Obj} {c1 c2:Heap→Prop} (i1:iS v1 o1 c1) (i2:iS v2 o2 c2) (Ci:∀ h o,c2 h→c2 (h.push o)) :
  Meets (Builtin.«zip.__new__» ⟨[.type "zip",v1,v2],[]⟩) (fun _ R s=>c1 s.heap∧c2 s.heap ∧
   R (.ok (.ret (.ref (Q9 s.heap o1 o2).objs.size))) { s with heap:=KU s.heap o1 o2 }) :=
 .of_wp fun prog w A R s h=>by
  obtain ⟨hp,g,d,tk,os⟩:=s; obtain ⟨OD,Bd,h⟩:=h
  have Cj:=sub_zip
  have Xg:=Ci _ o1 Bd
  have I1:∀ (A:Around) (E:Value→Shared→Prop) (Q:Value→Shared→Prop),Q (.ref hp.objs.size) ⟨hp.push o1,g,d,tk,os⟩→wpAny (model prog w) A (pyIter v1) Q E ⟨hp,g,d,tk,os⟩:=fun A E Q q=>i1 prog w A E _ Q OD q
  have I2:∀ (A:Around) (E:Value→Shared→Prop) (Q:Value→Shared→Prop),Q (.ref (hp.push o1).objs.size) ⟨(hp.push o1).push o2,g,d,tk,os⟩→wpAny (model prog w) A (pyIter v2) Q E ⟨hp.push o1,g,d,tk,os⟩:=fun A E Q q=>i2 prog w A E _ Q Xg q
  wp_walk using I1,I2
  exact ⟨_,rfl,h⟩
section
variable {prog:Program} {w:World} {A:Around} {E:Value→Shared→Prop} {s:Shared}
theorem zB {v1 v2:Value} {o1 o2:Obj} {c1 c2:Heap→Prop} {Q:Value→Shared→Prop} (i1:iS v1 o1 c1) (i2:iS v2 o2 c2) (Ci:∀ h o,c2 h→c2 (h.push o)) (h1:c1 s.heap) (h2:c2 s.heap) (Tt:o1.isFreed=false) (Tu:o2.isFreed=false)
  (h:∀ h',IsZip h' (s.heap.objs.size+4) (s.heap.objs.size+2) (s.heap.objs.size+3) .none→IsPair h' (s.heap.objs.size+2) (.ref s.heap.objs.size) (.ref (s.heap.objs.size+1)) →
    IsPair h' (s.heap.objs.size+3) .none .none→h'.get? s.heap.objs.size=some o1→h'.get? (s.heap.objs.size+1)=some o2→h'.objs.size=s.heap.objs.size+5 →
    (∀ c o,s.heap.get? c=some o→h'.get? c=some o)→Q (.ref (s.heap.objs.size+4)) { s with heap:=h' }) :
  wpAny (model prog w) A (call (.type "zip") [v1,v2]) Q E s:=by
 refine callType_new F.called_zip (by decide) (F.typeCall_zip_2 _ _) (F.newCall_zip_2 _ _) (fun obj=>F.args_object_init_3 obj _ _) F.entry_zip_new
  (wy i1 i2 Ci) ⟨h1,h2,?_⟩
 have z1:(s.heap.push o1).objs.size=s.heap.objs.size+1:=vO ..
 have z2:((s.heap.push o1).push o2).objs.size=s.heap.objs.size+2:=by rw [vO,z1]
 have z3:(Q8 s.heap o1 o2).objs.size=s.heap.objs.size+3:=by rw [vO,z2]
 have z4:(Q9 s.heap o1 o2).objs.size=s.heap.objs.size+4:=by rw [vO,z3]
 have z5:(KU s.heap o1 o2).objs.size=s.heap.objs.size+5:=by rw [vO,z4]
 have g5:(KU s.heap o1 o2).get? (Q9 s.heap o1 o2).objs.size=some _:=m9 _ rfl
 have g4:(KU s.heap o1 o2).get? (Q8 s.heap o1 o2).objs.size=some _:=cY _ (m9 _ rfl)
 have g3:(KU s.heap o1 o2).get? ((s.heap.push o1).push o2).objs.size=some _:=cY _ (cY _ (m9 _ rfl))
 have g2:(KU s.heap o1 o2).get? (s.heap.push o1).objs.size=some _:=cY _ (cY _ (cY _ (m9 _ Tu)))
 have g1:(KU s.heap o1 o2).get? s.heap.objs.size=some _:=cY _ (cY _ (cY _ (cY _ (m9 _ Tt))))
 show _∧_
 rw [z2,z3,z4] at g5
 rw [z1,z2] at g3
 rw [z3] at g4
 rw [z1] at g2
 rw [z4]
 exact ⟨⟨_,g5,rfl⟩,h _ g5 g3 g4 g1 g2 z5 fun c o x =>
  cY _ (cY _ (cY _ (cY _ (cY _ x))))⟩
end
structure zC (P:Program) (w:World) (K:PySem.W.Frag) (i:Addr) (fp:List Addr) (sq:Hp→List V→Prop) (it:Nat→Heap→Prop):Prop where
 part:∀ (X:Cx) (pins:List (Addr×Obj)) (σ:St) (H:Hp) (s:Shared),X.prog=P→X.w=w→X.K=K→Inv X pins σ H s→∀ xs,sq H xs →
  ∃ (Pv:Nat→Value→Prop) (S:Nat→Heap→Prop),Part P w i fp xs.length Pv S∧(∀ k v,Pv k v→∃ x,xs[k]?=some x∧RelV x v)∧(∀ k h,S k h→it k h)∧∀ k,it k s.heap→S k s.heap
 keep:∀ k h h',it k h→(∀ o,h.get? i=some o→h'.get? i=some o)→it k h'
 obj:∀ k h,it k h→∃ o,h.get? i=some o∧∀ v,o.data≠.cell v
 inj:∀ (X:Cx) (pins:List (Addr×Obj)) (σ:St) (H:Hp) (s:Shared),X.K=K→Inv X pins σ H s→∀ xs ys,sq H xs→sq H ys→xs=ys
theorem src_list {P:Program} {w:World} {K:PySem.W.Frag} (i l:Addr) (pZ:l≠i):zC P w K i [i,l] (fun H xs=>eI K H l xs) (fun k h=>h.IsListIter i l k) where
 part:=fun X pins σ H s hP hw hK I xs hq=>by
  subst hP hw hK
  obtain ⟨aK,rv,p,hz⟩:=I.list hq
  have e:aK.toArray.size=xs.length:=by simp [rv.length]
  refine ⟨_,_,e▸zA i l pZ aK.toArray,fun k v hv=>?_,fun k h st=>st.1,fun k st=>⟨st,p.isList⟩⟩
  have wz:aK[k]?=some v:=by simpa using hv
  have hk:k < xs.length:=by rw [← e]; simp; exact (gh.mp wz).1
  obtain ⟨u,hu,ru⟩:=rv.get (show xs[k]?=some xs[k] by simp)
  rw [wz] at hu
  cases hu
  exact ⟨_,by simp,ru⟩
 keep:=fun k h h' st q=>st.at q
 obj:=fun k h st=>let ⟨o,e,_,d⟩:=st; ⟨o,e,fun v z=>by rw [d] at z; cases z⟩
 inj:=fun X pins σ H s hK I xs ys h1 h2=>by subst hK; exact I.kg h1 h2
theorem src_tuple {P:Program} {w:World} {K:PySem.W.Frag} (i l:Addr) (pZ:l≠i):zC P w K i [i,l] (fun H xs=>dw K H l xs) (fun k h=>h.IsTupleIter i l k) where
 part:=fun X pins σ H s hP hw hK I xs hq=>by
  subst hP hw hK
  obtain ⟨aK,rv,p,hz⟩:=I.tuple hq
  have e:aK.toArray.size=xs.length:=by simp [rv.length]
  refine ⟨_,_,e▸wu i l pZ aK.toArray,fun k v hv=>?_,fun k h st=>st.1,fun k st=>⟨st,p⟩⟩
  have wz:aK[k]?=some v:=by simpa using hv
  have hk:k < xs.length:=by rw [← e]; simp; exact (gh.mp wz).1
  obtain ⟨u,hu,ru⟩:=rv.get (show xs[k]?=some xs[k] by simp)
  rw [wz] at hu
  cases hu
  exact ⟨_,by simp,ru⟩
 keep:=fun k h h' st q=>let ⟨o,e,r⟩:=st; ⟨o,q o e,r⟩
 obj:=fun k h st=>let ⟨o,e,_,d⟩:=st; ⟨o,e,fun v z=>by rw [d] at z; cases z⟩
 inj:=fun X pins σ H s hK I xs ys h1 h2=>by subst hK; exact I.lb h1 h2
def wA (x:Str):List V:=x.cps.toList.map fun c=>.str ⟨#[c]⟩
theorem F3 {P:Program} {w:World} {K:PySem.W.Frag} (i:Addr) (x:Str) (t:Tok):zC P w K i [i] (fun _ xs=>xs=wA x) (fun k h=>h.IsStrIter i (strIterType x) x t k) where
 part:=fun X pins σ H s hP hw hK I xs hq=>by
  subst hP hw hK hq
  have e:x.cps.size=(wA x).length:=by unfold wA; simp
  refine ⟨_,_,e▸Ce i x t,fun k v hv=>?_,fun k h st=>st,fun k st=>st⟩
  obtain ⟨c,u,h1,rfl⟩:=hv
  exact ⟨.str ⟨#[c]⟩,by unfold wA; rw [k9]; simp [h1],u,rfl⟩
 keep:=fun k h h' st q=>let ⟨o,e,r⟩:=st; ⟨o,q o e,r⟩
 obj:=fun k h st=>let ⟨o,e,_,d⟩:=st; ⟨o,e,fun v z=>by rw [d] at z; cases z⟩
 inj:=fun X pins σ H s hK I xs ys h1 h2=>by rw [h1,h2]
section
variable {X:Cx} {pins:List (Addr×Obj)} {σ:St} {H H':Hp} {s:Shared} {h':Heap}
theorem F4 {t':Nat} {ch:List Addr} (I:Inv X pins σ H s) (k:∀ b u,b∉ch→s.heap.get? b=some u→h'.get? b=some u) (hf:∀ b∈ch,lg X pins H b):Inv X pins σ H { s with heap:=h',toks:=t' }:=by
 have Br:∀ b u,H b=some u→b∉ch:=fun b u e z=>by rw [(hf b z).1] at e; cases e
 refine I.step (g':=s.gens) (d':=s.drawn) (ch:=ch) (fun b hb=>?_) (fun b u _ _ hc e _=>k b u hc e) (fun b u _ _ hc e _=>⟨u.slots,k b u hc e⟩) (fun b u _ e n=>n) (fun b u hc e=>⟨u,k b u hc e⟩)
  (fun b xs e=>e) (fun b u v e=>e) (fun b ps e=>⟨#[],?_⟩) (fun m hm=>?_) (fun b u e=>?_) I.bare
 · obtain ⟨_,f1,_,f3,f4,f5⟩:=hf b hb
   exact ⟨f3,f1,f4,f5⟩
 · rw [e]; simp
 · obtain ⟨ob,es,ep,ho,r⟩:=hm
   exact ⟨ob,es,ep,k _ ob (fun z=>(hf _ z).2.1 rfl) ho,r⟩
 · refine (I.bC b u e).mF (fun c v hc q=>k c v ?_ q) (fun c q=>q) fun c xs q=>q
   rcases hc with z | z
   · rw [z]; exact Br b u e
   · exact Br c _ z
end
def Tv (wB wC:Hp→List V→Prop):It :=
 ⟨fun i H=>∃ xs ys,wB H xs∧wC H ys∧i < xs.length∧i < ys.length,fun i H v H'=>∃ t x y,H t=none∧v = .ref t∧(∀ xs,wB H xs→xs[i]?=some x)∧(∀ ys,wC H ys→ys[i]?=some y)∧H'=upd H t (.tup [x,y]),
   fun i H=>∃ xs ys,wB H xs∧wC H ys∧(i=xs.length∨(i < xs.length∧i=ys.length))⟩
theorem Ck {P:Program} {w:World} {K:PySem.W.Frag} {elts:List Expr} {x1} {tp:Pos} {z TI TO i1 i2:Addr} {oF nE:List Addr} {wB wC:Hp→List V→Prop} {t1 t2:Nat→Heap→Prop} (D:Apart z TI TO i1 i2 oF nE) (p1:zC P w K i1 oF wB t1) (p2:zC P w K i2 nE wC t2) :
  Turn P w K (.Tuple elts x1 tp) (Tv wB wC) [z,TI,TO,i1,i2] z (fun i h=>IsZip h z TI TO .none∧IsPair h TI (.ref i1) (.ref i2)∧(∃ a b,IsPair h TO a b)∧t1 i h∧t2 i h) where
 mem:=by simp
 obj:=fun i h st b hb=>by
  obtain ⟨h1,h2,⟨a,c,h3⟩,h4,h5⟩:=st
  simp only [dS,fD,or_false] at hb
  rcases hb with rfl | rfl | rfl | rfl | rfl
  · exact ⟨_,h1,fun v q=>by cases q⟩
  · exact ⟨_,h2,fun v q=>by cases q⟩
  · exact ⟨_,h3,fun v q=>by cases q⟩
  · exact p1.obj i h h4
  · exact p2.obj i h h5
 keep:=fun i h h' st k=>by
  obtain ⟨h1,h2,⟨a,c,h3⟩,h4,h5⟩:=st
  exact ⟨k z (by simp) _ h1,k TI (by simp) _ h2,⟨a,c,k TO (by simp) _ h3⟩,p1.keep i h h' h4 fun o q=>k i1 (by simp) o q,p2.keep i h h' h5 fun o q=>k i2 (by simp) o q⟩
 item:=by
  intro X hP hw hK hc i pins s σ H E I hf st hg
  obtain ⟨xs,ys,Q_,wD,l1,l2⟩:=hg
  obtain ⟨h1,h2,⟨a,c,h3⟩,h4,h5⟩:=st
  obtain ⟨P1,S1,q1,v1,b1,f1⟩:=p1.part X pins σ H s hP hw hK I xs Q_
  obtain ⟨P2,S2,q2,v2,b2,f2⟩:=p2.part X pins σ H s hP hw hK I ys wD
  refine mJ (I.ok.hd hc) D q1 q2 h1 h2 h3 (f1 i h4) (f2 i h5) l1 l2 fun x y h₁ tk px py BP Tw s1 s2 Xh pY hk=>?_
  obtain ⟨x',ex,rx⟩:=v1 i x px
  obtain ⟨y',ey,ry⟩:=v2 i y py
  refine ⟨_,rfl,wpAny_letOwnedTupleGo_zip BP fun h₂ Q7 qh=>?_⟩
  have qi:Heap.SameBut z h₁ h₂:=qh
  have fN:z < s.heap.objs.size:=dq h1
  have SH:s.heap.objs.size≠z:=A_ fN
  have kk:∀ b ob,b∉[z,TI,TO,i1,i2]→s.heap.get? b=some ob→h₂.get? b=some ob:=fun b ob hb q=>by
   simp only [dS,fD,or_false,not_or] at hb
   exact (qi.2 b hb.1).trans (hk b ob hb.1 hb.2.2.1 hb.2.2.2.1 hb.2.2.2.2 q)
  have new:bM X.prog X.w (upd H s.heap.objs.size (.tup [x',y'])) h₂ s.heap.objs.size (.tup [x',y']) :=
   ⟨by show 2≤sizeLine; rw [sizeLine_eq]; decide,[x,y],.cons rx (.cons ry .nil),⟨_,(qi.2 _ SH).trans Xh,rfl,_,rfl⟩⟩
  refine ⟨.ref s.heap.objs.size,upd H s.heap.objs.size (.tup [x',y']),I.grown (t':=tk) kk hf (du _) new,rfl,⟨_,x',y',I.fresh,rfl,fun zs hz=>by rw [p1.inj X pins σ H s hK I _ _ hz Q_]; exact ex,fun zs hz=>by rw [p2.inj X pins σ H s hK I _ _ hz wD]; exact ey,rfl⟩,⟨Q7,?_,⟨x,y,?_⟩,?_,?_⟩,fun b hb=>?_⟩
  · exact (qi.2 TI D.TIz).trans (hk TI _ D.TIz D.TITO D.TIi1 D.TIi2 h2)
  · exact (qi.2 TO D.TOz).trans Tw
  · exact p1.keep _ _ _ (b1 _ _ s1) fun o q=>(qi.2 i1 D.i1z).trans q
  · exact p2.keep _ _ _ (b2 _ _ s2) fun o q=>(qi.2 i2 D.i2z).trans q
  · have SJ:b < s.heap.objs.size:=by
     simp only [dS,fD,or_false] at hb
     rcases hb with rfl | rfl | rfl | rfl | rfl
     · exact fN
     · exact dq h2
     · exact dq h3
     · obtain ⟨o,e,_⟩:=p1.obj i _ h4; exact dq e
     · obtain ⟨o,e,_⟩:=p2.obj i _ h5; exact dq e
    rw [aH (gF SJ)]
    exact (hf b hb).1
 done:=by
  intro X hP hw hK hc i pins s σ H E I hf st hg
  obtain ⟨xs,ys,Q_,wD,he⟩:=hg
  obtain ⟨h1,h2,⟨a,c,h3⟩,h4,h5⟩:=st
  obtain ⟨P1,S1,q1,v1,b1,f1⟩:=p1.part X pins σ H s hP hw hK I xs Q_
  obtain ⟨P2,S2,q2,v2,b2,f2⟩:=p2.part X pins σ H s hP hw hK I ys wD
  refine oG (I.ok.hd hc) D q1 q2 h1 h2 h3 (f1 i h4) (f2 i h5) he fun h' tk hk=>⟨rfl,?_⟩
  refine F4 (t':=tk) I (fun b u hb q=>?_) hf
  simp only [dS,fD,or_false,not_or] at hb
  exact hk b u hb.1 hb.2.2.1 hb.2.2.2.1 hb.2.2.2.2 q
 self:=fun _ _ _ _ _ st h=>by
  obtain ⟨h1,_⟩:=st
  exact wpAny_pyIter_zip h1 h
inductive ZK (K:PySem.W.Frag) (H:Hp):V→(Hp→List V→Prop)→Prop where
 | lst {a:Addr} {xs:List V}:eI K H a xs→ZK K H (.ref a) (fun H xs=>eI K H a xs)
 | tup {a:Addr} {xs:List V}:dw K H a xs→ZK K H (.ref a) (fun H xs=>dw K H a xs)
 | str (z:Str):ZK K H (.str z) (fun _ xs=>xs=wA z)
theorem Ic {X:Cx} {pins:List (Addr×Obj)} {σ:St} {H:Hp} {s:Shared} {x:V} {u:Value} {sq:Hp→List V→Prop} (I:Inv X pins σ H s) (z:ZK X.K H x sq) (r:RelV x u) :
  ∃ (o:Obj) (c:Heap→Prop) (fp:List Addr) (it:Addr→Nat→Heap→Prop),iS u o c∧c s.heap∧(∀ h o,c h→c (h.push o))∧o.isFreed=false∧(∀ b∈fp,b < s.heap.objs.size) ∧
   ∀ i,s.heap.objs.size≤i→zC X.prog X.w X.K i (i :: fp) sq (it i)∧∀ h,h.get? i=some o→it i 0 h:=by
 cases z with
 | lst hq =>
   rename_i a xs
   cases r
   obtain ⟨aK,rv,p,hz⟩:=I.list hq
   have hl:a < s.heap.objs.size:=by obtain ⟨o,n,e,_⟩:=p; exact dq e
   refine ⟨_,_,[a],fun i k h=>h.IsListIter i a k,uG a aK.toArray,p.isList,fun h o q=>Heap.IsList.push q _,rfl,fun b hb=>by rw [x6.mp hb]; exact hl,fun i hi=>⟨src_list i a (gF (m_ hl hi)),fun h e=>⟨_,e,rfl,rfl⟩⟩⟩
 | tup hq =>
   rename_i a xs
   cases r
   obtain ⟨aK,rv,p,hz⟩:=I.tuple hq
   have hl:a < s.heap.objs.size:=by obtain ⟨o,e,_⟩:=p; exact dq e
   refine ⟨_,_,[a],fun i k h=>h.IsTupleIter i a k,sH a aK.toArray,p,fun h o q=>(let ⟨o',e,r⟩:=q; ⟨o',cY _ e,r⟩),rfl,fun b hb=>by rw [x6.mp hb]; exact hl,fun i hi=>⟨src_tuple i a (gF (m_ hl hi)),fun h e=>⟨_,e,rfl,rfl⟩⟩⟩
 | str z =>
   obtain ⟨t,rfl⟩:=r
   refine ⟨_,_,[],fun i k h=>h.IsStrIter i (strIterType z) z t k,wx z t,trivial,fun _ _ _=>trivial,rfl,fun b hb=>?_,fun i hi=>⟨F3 i z t,fun h e=>⟨_,e,rfl,rfl⟩⟩⟩
   cases hb
theorem nn {a b:Nat} (h:a < b):a≠b:=gF h
theorem Cm {n:Nat} {oF nE:List Addr} (h1:∀ b∈oF,b < n) (h2:∀ b∈nE,b < n):Apart (n+4) (n+2) (n+3) n (n+1) (n :: oF) ((n+1) :: nE):=by
 have k1:∀ b:Nat,n < b→b∉(n :: oF):=fun b hb m=>by
  rcases dS.mp m with q | q
  · exact A_ hb q
  · exact Ej _ (Nat.lt_trans hb (h1 b q))
 have k2:∀ b:Nat,n+1 < b→b∉((n+1) :: nE):=fun b hb m=>by
  rcases dS.mp m with q | q
  · exact A_ hb q
  · exact Ej _ (Nat.lt_trans (Nat.lt_trans (IU n) hb) (h2 b q))
 have k3:n∉((n+1) :: nE):=fun m=>by
  rcases dS.mp m with q | q
  · exact gF (IU n) q
  · exact Ej _ (h2 n q)
 exact ⟨nn (by omega),nn (by omega),nn (by omega),nn (by omega),nn (by omega),(nn (by omega)).symm,(nn (by omega)).symm,(nn (by omega)).symm,(nn (by omega)).symm,nn (by omega),k1 _ (by omega),k2 _ (by omega),k1 _ (by omega),k2 _ (by omega),k1 _ (by omega),k3⟩
theorem F5 {n c:Nat} (h:c∈[n+4,n+2,n+3,n,n+1]):n≤c:=by
 simp only [dS,fD,or_false] at h
 omega
def Tx (K:PySem.W.Frag) (ta:TA):TI:=fun σ H R=>ta σ H fun vs H1=>∃ x y wB wC,vs=[x,y]∧ZK K H1 x wB∧ZK K H1 y wC∧R (Tv wB wC) H1
section
variable {X:Cx} {Z:Zc}
theorem boot_zip:bootBuiltins "zip" = some (.type "zip"):=by decide +kernel
theorem KW {elts:List Expr} {x1} {tp:Pos} {a b:Expr} {ta:TA} {p pos:Pos} (hg:Gl X "zip") (hm:X.mg "zip" = none) (ha:PA X [a,b] ta) (hs:starEach [a,b] X.env=[(false,eval a X.env),(false,eval b X.env)]) (tW:starEach [b] X.env=[(false,eval b X.env)]) :
  PI X (.Tuple elts x1 tp) (.Call (.Name "zip" p) [a,b] [] pos) (Tx X.K ta):=by
 intro pins s σ H R I h
 refine Call_ (jL I hg hm boot_zip (Qz (bT (ha pos pins s σ H _ I h) fun us s1 ⟨vs,H1,I1,r1,q1⟩=>?_) (by rw [hs,tW]) (by rw [tW]; rfl)))
 obtain ⟨x,y,wB,wC,e,k1,k2,q⟩:=q1
 subst e
 obtain ⟨u,w',rfl,ru,rw'⟩:=vals2 r1
 obtain ⟨o1,c1,oF,t1,i1,OD,Xi,Tt,KY,z1⟩:=Ic I1 k1 ru
 obtain ⟨o2,c2,nE,t2,i2,Bd,Ci,Tu,Ie,z2⟩:=Ic I1 k2 rw'
 refine zB i1 i2 Ci OD Bd Tt Tu fun h' hz FW FY g1 g2 pY hk=>?_
 have I2:Inv X pins σ H1 { s1 with heap:=h' }:=I1.kept (t':=s1.toks) hk
 refine wpAny_pyIter_zip hz ?_
 obtain ⟨S1,a1⟩:=z1 s1.heap.objs.size (du _)
 obtain ⟨S2,a2⟩:=z2 (s1.heap.objs.size+1) (IZ _)
 have D:Apart (s1.heap.objs.size+4) (s1.heap.objs.size+2) (s1.heap.objs.size+3) s1.heap.objs.size (s1.heap.objs.size+1) (s1.heap.objs.size :: oF) ((s1.heap.objs.size+1) :: nE):=by
  exact Cm KY Ie
 refine ⟨s1.heap.objs.size+4,_,_,_,H1,rfl,I2,Ck D S1 S2,⟨hz,FW,⟨_,_,FY⟩,a1 _ g1,a2 _ g2⟩,fun c hc=>?_,q⟩
 have VJ:s1.heap.objs.size≤c:=F5 hc
 exact I1.qc VJ (I1.bC.fresh VJ)
def KZ:T→Option (List T)
 | .lst ts=>some ts
 | .tup ts=>some ts
 | .str z=>some (z.cps.toList.map fun c=>.str ⟨#[c]⟩)
 | _=>none
def oH (xs ys:List T):List T:=List.zipWith (fun a b=>.tup [a,b]) xs ys
def Tz (fa fb:FE):FI:=fun ρ Q=>fa ρ fun x=>fb ρ fun y=>match KZ x,KZ y with
 | some xs,some ys=>Q (oH xs ys)
 | _,_=>False
theorem Ig {K:PySem.W.Frag} {H:Hp} {A:List Addr} {x:T} {v:V} {xs:List T} (h:At K H A x v) (e:KZ x=some xs):∃ sq,ZK K H v sq∧∀ H A,At K H A x v→∃ vs,sq H vs∧aG K H A xs vs:=by
 cases x with
 | lst ts =>
   cases e
   simp only [At] at h
   obtain ⟨a,vs,rfl,l,q⟩:=h
   refine ⟨_,.lst l.sq,fun H A h=>?_⟩
   simp only [At] at h
   obtain ⟨a',j',e,l',q'⟩:=h
   cases e
   exact ⟨j',l'.sq,q'⟩
 | tup ts =>
   cases e
   simp only [At] at h
   obtain ⟨a,vs,rfl,l,q⟩:=h
   refine ⟨_,.tup l,fun H A h=>?_⟩
   simp only [At] at h
   obtain ⟨a',j',e,l',q'⟩:=h
   cases e
   exact ⟨j',l',q'⟩
 | str z =>
   cases e
   simp only [At] at h
   subst h
   refine ⟨_,.str z,fun H A h=>⟨wA z,rfl,?_⟩⟩
   unfold wA
   generalize z.cps.toList=l
   induction l with
   | nil=>exact aG.nil
   | cons c l ih=>exact aG.cons bZ ih
 | _=>cases e
theorem K0 {K:PySem.W.Frag} {x y:T} {v w:V} {xs ys:List T} {wB wC:Hp→List V→Prop} (h1:∀ H A,At K H A x v→∃ vs,wB H vs∧aG K H A xs vs) (h2:∀ H A,At K H A y w→∃ vs,wC H vs∧aG K H A ys vs) :
  Wk K (Tv wB wC) [(x,v),(y,w)] (oH xs ys):=fun H A hA h i=>by
 obtain ⟨vs,q1,l1⟩:=h1 H A (h _ jz)
 obtain ⟨ws,q2,l2⟩:=h2 H A (h _ (jc _ jz))
 have e1:=l1.length
 have e2:=l2.length
 have el:(oH xs ys).length=min xs.length ys.length:=by unfold oH; rw [List.length_zipWith]
 rw [el]
 refine ⟨fun hi=>⟨vs,ws,q1,q2,by omega,by omega⟩,fun hi=>⟨vs,ws,q1,q2,by omega⟩,fun t ht x H' y=>?_⟩
 obtain ⟨p,a,b,hp,rfl,ha,hb,rfl⟩:=y
 unfold oH at ht
 rw [List.getElem?_zipWith] at ht
 cases ex:xs[i]? with
 | none=>rw [ex] at ht; cases ht
 | some tx =>
   cases ey:ys[i]? with
   | none=>rw [ex,ey] at ht; cases ht
   | some ty =>
     rw [ex,ey] at ht
     cases ht
     obtain ⟨v1,g1,g2⟩:=l1.get ex
     obtain ⟨v2,g3,g4⟩:=l2.get ey
     have z1:=ha vs q1
     have z2:=hb ws q2
     rw [g1] at z1
     rw [g3] at z2
     cases z1
     cases z2
     exact ⟨aS hp,bz (dw.of aU) (aG.cons (g2.same (aS hp)) (aG.cons (g4.same (aS hp)) aG.nil))⟩
theorem K1 {elts:List Expr} {x1} {tp p pos:Pos} {a b:Expr} {fa fb:FE} (hg:Gl X "zip") (hm:X.mg "zip" = none) (ha:VE X Z a fa) (hb:VE X Z b fb)
  (hs:starEach [a,b] X.env=[(false,eval a X.env),(false,eval b X.env)]:=by rfl) (tW:starEach [b] X.env=[(false,eval b X.env)]:=by rfl) :
  VI X Z (.Tuple elts x1 tp) (.Call (.Name "zip" p) [a,b] [] pos) (Tz fa fb):=.mk fun tm =>
 PI.weak (KW hg hm (bu (ha tm) (bu (hb tm) cR tW) (by rw [hs,tW])) hs tW) fun σ H R ⟨ρ,O,q,I,hf,k⟩=>⟨ρ,O,_,I,hf,fun x hx v H1 s1 a1=>⟨ρ,O,_,I.same s1,hx,fun y hy w H2 s2 a2=>by
  split at hy
  · rename_i xs ys e1 e2
    obtain ⟨wB,k1,w1⟩:=Ig (a1.same s2) e1
    obtain ⟨wC,k2,w2⟩:=Ig a2 e2
    exact ⟨v,w,wB,wC,rfl,k1,k2,k _ hy _ H2 _ (s1.trans s2) (fun p hp=>by
     rcases dS.mp hp with e | hp
     · rw [e]; exact a1.same s2
     · rw [x6.mp hp]; exact a2) (K0 w1 w2)⟩
  · exact hy.elim⟩⟩
end
end VT
namespace HE
open PySem PySem.W PySem.Calls PyProof.Rows
noncomputable def nF (tb:String→Option Builtin) (p:Program) (w:World) (n₀:Nat) (ann:Option Value):Nat→SharedT→Thread→Option SharedT
 | 0,_,_=>none
 | n+1,s,t=>match through t with
   | true=>some s
   | false=>match stepOk n₀ ann t with
     | false=>none
     | true=>match stepT (denote tb) p w s t with
       | some (s',t')=>nF tb p w n₀ ann n s' t'
       | none=>none
theorem rh {tb:String→Option Builtin} {p:Program} {w:World} {n₀:Nat} {ann:Option Value}:∀ {n:Nat} {s s':SharedT} {t:Thread},nF tb p w n₀ ann n s t=some s'→topRun tb p w n₀ ann n s.abs t=some s'.abs
 | 0,_,_,_,h=>by cases h
 | n+1,s,s',t,h=>by
   unfold nF at h
   unfold topRun
   cases ht:through t with
   | true=>rw [ht] at h; cases h; rfl
   | false =>
     rw [ht] at h
     cases hk:stepOk n₀ ann t with
     | false=>rw [hk] at h; cases h
     | true =>
       rw [hk] at h
       cases hs:stepT (denote tb) p w s t with
       | none=>rw [hs] at h; cases h
       | some r=>obtain ⟨s₂,t₂⟩:=r; rw [hs] at h; rw [stepT_spec hs]; exact rh h
noncomputable def Xj (l:List Obj):BT:=(l.foldl (fun (p:BT×Nat) o=>(p.1.ins p.2 o,p.2+1)) (.nil,0)).1
noncomputable def dA (P:Params):BT:=Xj (boot_heap P).objs.toList
noncomputable def VL (T:BT) (os:OsState):SharedT:=⟨T,11,{},Array.mk [],boot_drawn,boot_toks,os⟩
theorem boot_abs (P:Params):absHeap (dA P) 11 {}=boot_heap P:=by kernel_rfl
theorem zD (P:Params):((boot_heap P).isNs mainGlobals,(boot_heap P).objs.size,(boot_heap P).nsMap mainGlobals "__annotations__")=(true,11,some (.ref 6)):=by kernel_rfl
noncomputable def K2 (p:Program) (T:BT) (w:World) (M:Nat) (os:OsState):Option SharedT:=nF treeTable p w 11 (some (.ref 6)) M (VL T os) (topStub p)
noncomputable def Kf (as:List Addr) (g:Addr→Option Obj):Frag:=as.filterMap fun a=>(g a).map fun o=>(a,o)
noncomputable def tg (T:BT) (n:Nat) (a:Addr):Option Obj:=match Nat.blt a n with
 | true=>alive ((T.get a).getD default)
 | false=>none
theorem OE (T:BT) (n:Nat) (life:Life) (a:Addr):(absHeap T n life).get? a=tg T n a:=by
 unfold tg
 cases h:Nat.blt a n with
 | true =>
   have hn:a < n:=Nat.ble_eq.mp h
   cases g:T.get a with
   | some o=>rw [abs_get hn g]; rfl
   | none =>
     have e:=absHeap_at T n life a
     rw [if_pos hn,g] at e
     unfold Heap.get?
     rw [e]
     rfl
 | false =>
   have hn:¬ a < n:=fun z=>by
    have:Nat.blt a n=true:=Nat.ble_eq.mpr z
    rw [h] at this; cases this
   exact abs_get_none hn
abbrev F6 (q:Program) (lv:List (Str×WData)) (R:WRecords) (s:Shared):Bool:=xlAt q lv s && recOk R s
noncomputable def lookA (p q:Program) (loose:List Str) (lv:List (Str×WData)) (R:WRecords) (T:BT) (H0:Heap) (w:World) (M:Nat) (os:OsState) :=
 (K2 p T w M os).map fun s=>((staticsOk (importedModules p.main.body) H0 s.abs.heap && namesBound p s.abs.heap && gensDone s.abs && laidKept H0 s.abs.heap),
   (openSeen q loose (importedModules p.main.body) (F6 q lv R) true s.abs).1,(openSeen q loose (importedModules p.main.body) (F6 q lv R) true s.abs).2.1)
noncomputable def lookB (p q:Program) (loose:List Str) (lv:List (Str×WData)) (R:WRecords) (T:BT) (w:World) (M:Nat) (os:OsState) :=
 (K2 p T w M os).map fun s=>(openSeen q loose (importedModules p.main.body) (F6 q lv R) true s.abs).2.2
noncomputable def lookC {β:Type} (p:Program) (as:List Addr) (F:Frag→β) (T:BT) (w:World) (M:Nat) (os:OsState) :=
 (K2 p T w M os).map fun s=>F (Kf as (tg s.tree s.n))
noncomputable def sI (p:Program) (N:Nat) (w:World) (a:Addr):Option Obj:=(openEnds treeTable p w N).bind (·.heap.get? a)
theorem head {p q:Program} {loose:List Str} {lv:List (Str×WData)} {R:WRecords} {as:List Addr} {N M:Nat} {β:Type} {F:Frag→β} {v:World→β}
  (e:opening p=plainProg p.main.scope.names) (hN:Nat.ble 600 N=true) (f:∀ s,fenceModules? p s=some s) (le:Nat.ble M N=true)
  (ra:∀ (w:World) (os:OsState),lookA p q loose lv R (dA w.params) (boot_heap w.params) w M os=some (true,(openGood q loose).1,(openGood q loose).2.1))
  (rb:∀ (w:World) (os:OsState),lookB p q loose lv R (dA w.params) w M os=some (openGood q loose).2.2)
  (rc:∀ (w:World) (os:OsState),lookC p as F (dA w.params) w M os=some (v w)) :
  LeftO p q loose (F6 q lv R) (fun s=>as.map s.heap.get?) (fun w=>as.map (sI p N w)) N∧∀ w,F (Kf as (sI p N w))=v w:=by
 have key:∀ w,∃ s,openEnds treeTable p w N=some s∧openSeen q loose (importedModules p.main.body) (F6 q lv R) true s=openGood q loose∧F (Kf as s.heap.get?)=v w:=fun w=>by
  obtain ⟨⟨h,gs,d,k,os⟩,e1,e2⟩:=MX.mp (boot_open e hN f w)
  obtain ⟨rfl,rfl,rfl,rfl⟩:h=boot_heap w.params∧gs=Array.mk []∧d=boot_drawn∧k=boot_toks:=by simpa using e2
  obtain ⟨s,r1,r2⟩:=MX.mp (ra w os)
  obtain ⟨s',Xk,Xl⟩:=MX.mp (rb w os)
  obtain ⟨JK,TB,Xm⟩:=MX.mp (rc w os)
  obtain rfl:s=s':=Option.some.inj (r1.symm.trans Xk)
  obtain rfl:s=JK:=Option.some.inj (r1.symm.trans TB)
  have r3:=congrArg (fun x=>x.1) r2
  have r4:openSeen q loose (importedModules p.main.body) (F6 q lv R) true s.abs=openGood q loose:=Prod.ext (congrArg (fun x=>x.2.1) r2) (Prod.ext (congrArg (fun x=>x.2.2) r2) Xl)
  have r5:F (Kf as s.abs.heap.get?)=v w:=by
   rw [show s.abs.heap.get?=tg s.tree s.n from funext fun a=>OE _ _ _ a]
   exact Xm
  have t1:=rh r1
  have ea:(VL (dA w.params) os).abs=⟨boot_heap w.params,Array.mk [],boot_drawn,boot_toks,os⟩:=by
   show (⟨absHeap (dA w.params) 11 {},_,_,_,_⟩:Shared)=_
   rw [boot_abs]; rfl
  rw [ea] at t1
  have t2:=topRun_mono (N - M) _ _ _ _ t1
  rw [show M+(N - M)=N by have:=Nat.le_of_ble_eq_true le; omega] at t2
  have z:=zD w.params
  have z1:=congrArg (fun x=>x.1) z
  have z2:=congrArg (fun x=>x.2.1) z
  have z3:=congrArg (fun x=>x.2.2) z
  refine ⟨s.abs,?_,r4,r5⟩
  unfold openEnds
  rw [e1]
  show topFrom treeTable p w N _=_
  unfold topFrom
  dsimp only at z1 z2 z3 ⊢
  rw [z1,z2,z3,t2]
  show (match staticsOk (importedModules p.main.body) (boot_heap w.params) s.abs.heap && namesBound p s.abs.heap && gensDone s.abs && laidKept (boot_heap w.params) s.abs.heap with | true=>_ | false=>_)=_
  have Xn:(staticsOk (importedModules p.main.body) (boot_heap w.params) s.abs.heap && namesBound p s.abs.heap && gensDone s.abs && laidKept (boot_heap w.params) s.abs.heap)=true:=r3
  rw [Xn]
 refine ⟨fun w=>?_,fun w=>?_⟩
 · obtain ⟨s,a,b,c⟩:=key w
   rw [a]
   have:sI p N w=s.heap.get?:=by funext x; unfold sI; rw [a]; rfl
   show some (openSeen q loose (importedModules p.main.body) (F6 q lv R) true s,as.map s.heap.get?)=some (openGood q loose,as.map (sI p N w))
   rw [b,this]
 · obtain ⟨s,a,b,c⟩:=key w
   have:sI p N w=s.heap.get?:=by funext x; unfold sI; rw [a]; rfl
   rw [this]
   exact c
theorem kf_in {as:List Addr} {g:Addr→Option Obj} {h:Heap} (e:as.map h.get?=as.map g):(Kf as g).In h:=by
 have key:∀ {as:List Addr},as.map h.get?=as.map g→∀ a o,(Kf as g).lookup a=some o→h.get? a=some o:=by
  intro as
  induction as with
  | nil=>intro _ a o z; cases z
  | cons x as ih =>
    intro e a o z
    rw [jr,jr] at e
    injection e with e1 e2
    unfold Kf at z
    rw [mZ] at z
    cases hg:g x with
    | none=>rw [hg] at z; exact ih e2 a o z
    | some o' =>
      rw [hg] at z
      simp only [Option.map_some,EI] at z
      split at z
      · rename_i q
        have:a=x:=by simpa using q
        subst this
        cases z
        rw [e1,hg]
      · exact ih e2 a o z
 exact fun a o z=>key e a o z
theorem Cn {q:Program} {loose:List Str} {XP:(Str→Option Value)→Heap→Prop} {as:List Addr} {g:World→Addr→Option Obj} {r:RowW} {d:DefRec} {kwd:List (Str×Expr)} {run:Value→List Value→Sem Value}
  (h:WalkO q loose XP (fun w h=>(Kf as (g w)).In h) r d kwd run):WalkX q loose XP (fun s=>as.map s.heap.get?) (fun w=>as.map (g w)) r d kwd run :=
 fun w s₀ s₁ mg mb G y a o pm cd doc dV kV h1 h2 h3 h4 h5 h6 args vals rf L ll NX Vj NV Sr=>h w s₀ s₁ mg mb G (fun b o' z=>Laid.keeps L _ _ (kf_in y b o' z)) a o pm cd doc dV kV h1 h2 h3 h4 h5 h6 args vals rf ll NX Vj NV Sr
noncomputable def OF:Stmt→DefRec
 | .FunctionDef n ps b _ _ _ sc _ _ p=>⟨n,ps,b,sc,p⟩
 | _=>⟨Str.empty,default,[],default,default⟩
end HE
lay_quick HE.lookA HE.lookB HE.lookC
namespace VT
open PySem PySem.Spec PyProof.Rows L2
section
variable {X:Cx} {Z:Zc} {o e:Expr} {fo fe:FE} {apos bf:Pos}
def F7 (fo fe:FE):FP:=fun ρ Q=>fo ρ fun x=>match x with
 | .str z=>fe ρ fun y=>match y with
   | .str y=>Q (.vw (.bl (Txt.startswith z y)))
   | _=>False
 | _=>False
theorem zE (ho:VR X Z o fo) (he:VR X Z e fe) (eJ:attributeBase o "startswith" X.env (eval o X.env)=eval o X.env:=by rfl)
  (nS:((backTo bf (starEach [e] X.env)).all (fun x=>!x.1) && (backToKw bf (keywordEach [] X.env)).all (fun x=>x.1.isSome)
    && decide (([e]:List Expr).length+([]:List Keyword).length+(if ([]:List Keyword).isEmpty then 0 else 1) < 30))=true:=by rfl)
  (eM:(apos.endLine == bf.line)=true:=by rfl) (hs:starEach [e] X.env=(false,eval e X.env) :: starEach [] X.env:=by rfl) (eO:(backTo bf (starEach [] X.env)).any (·.1)=false:=by rfl) :
  VP X Z (.Call (.Attribute o "startswith" apos) [e] [] bf) (F7 fo fe):=.mk fun tm =>
 PE.weak (ub PySem.F.plainAttrs_str PySem.F.slot_str_startswith PySem.F.type_str_startswith qg (ho tm) (bu (he tm) cR hs) eJ nS eM hs eO) fun σ H Q ⟨ρ,O,q,I,hf,k⟩ =>
  ⟨ρ,O,_,I,hf,fun x hx v H1 s1 a1=>by
    split at hx
    · rename_i z
      have ev:=a1.str
      subst ev
      refine ⟨rfl,ρ,O,_,I.same s1,hx,fun y hy w H2 s2 a2=>?_⟩
      split at hy
      · have ew:=a2.str
        subst ew
        exact ⟨z,_,rfl,rfl,k _ hy _ H2 (s1.trans s2) ⟨(I.same s1).same s2,cu⟩⟩
      · exact hy.elim
    · exact hx.elim⟩
end
end VT
namespace VT
open PySem PySem.Spec PyProof.Rows
def MD {K:Type} [DecidableEq K] (l:List K) (v:K):List K:=if v∈l then l else l ++ [v]
def met {K:Type} [DecidableEq K] (val:Nat→K):Nat→List K
 | 0=>[]
 | i+1=>MD (met val i) (val i)
section
variable {K:Type} [DecidableEq K]
theorem yC (val:Nat→K):∀ i,(met val i).length≤i
 | 0=>du _
 | i+1=>by
   have:=yC val i
   simp only [met,MD]
   split
   · omega
   · rw [mf,MY]; omega
theorem F8 {l:List K} {v k:K}:k∈MD l v↔k∈l∨k=v:=by
 unfold MD
 split
 · rename_i h
   exact ⟨.inl,fun q=>q.elim id fun e=>e▸h⟩
 · rw [jA,x6]
end
abbrev fB (led:Bool):Obj:={ cls:=.type "set",dict:=none,data:=.set #[] 0 (.fresh 0 0 led) }
theorem sub_list_set:isSubtype (.type "list") (.type "set")=pure false:=by rw [isSubtype_type]; kernel_rfl
theorem sub_list_frozenset:isSubtype (.type "list") (.type "frozenset")=pure false:=by rw [isSubtype_type]; kernel_rfl
theorem sub_tuple_set:isSubtype (.type "tuple") (.type "set")=pure false:=by rw [isSubtype_type]; kernel_rfl
theorem sub_tuple_frozenset:isSubtype (.type "tuple") (.type "frozenset")=pure false:=by rw [isSubtype_type]; kernel_rfl
section
variable {prog:Program} {w:World} {A:Around} {R:Result→Shared→Prop} {I:Addr} {fp wr:List Addr} {G:Array GenState→Array GenState→Prop} {n:Nat} {P:Nat→Value→Prop} {St:Nat→Shared→Prop}
variable {K:Type} [DecidableEq K] {knd:PySem.KeyKind prog w K}
theorem rj (W:WalksS prog w A.in1 I fp wr G n P St) (S:Addr) (ME:S∉fp)
  (val:Nat→K) (TC:∀ i v,P i v→knd.is (val i) v=true∧v.scannable=true) (hb:n+1 < scanBound) :
  ∀ (k i:Nat) (s:Shared),n - i=k→i≤n→St i s →
   s.heap.SetOf knd S (fun k'=>decide (k'∈met val i)) (met val i).length →
   (∀ s',Moved (S :: wr) G s s'→s'.heap.SetOf knd S (fun k'=>decide (k'∈met val n)) (met val n).length→R (.ok (.ret .none)) s') →
   codeAny (model prog w) A (.builtin "set.update.loop" ⟨[.ref S,.ref I],[]⟩) R s:=by
 have VM:S∉wr:=fun h=>ME (W.sub _ h)
 have Cj:∀ b∈wr,b∈S :: wr:=fun b hb=>jc _ hb
 intro k
 induction k with
 | zero =>
   intro i s hk hi EV hS hR
   have TF:i=n:=by omega
   subst TF
   refine codeAny_builtin PyProof.Rows.F.entry_set_update_loop ?_
   rw [Around.under_plainId Ru _]
   show wpAny _ A.in1 (pyNext (.ref I) >>= _) _ _ s
   refine wpAny_bind (W.done s _ _ EV fun s' hm=>?_)
   show wpAny _ A.in1 (ret Value.none) _ _ s'
   exact wpAny_pure (hR s' (hm.mono Cj) (by
    obtain ⟨o,es,ep,t,ho,rest⟩:=hS
    exact ⟨o,es,ep,t,hm.heap S _ VM ho,rest⟩))
 | succ k ih =>
   intro i s hk hi EV hS hR
   have fN:i < n:=by omega
   refine codeAny_builtin PyProof.Rows.F.entry_set_update_loop ?_
   rw [Around.under_plainId Ru _]
   show wpAny _ A.in1 (pyNext (.ref I) >>= _) _ _ s
   refine wpAny_bind (W.item i s _ _ fN EV fun v s' hP TH hm=>?_)
   obtain ⟨KJ,FN⟩:=TC i v hP
   have Co:s'.heap.SetOf knd S (fun k'=>decide (k'∈met val i)) (met val i).length:=by
    obtain ⟨o,es,ep,tb,ho,rest⟩:=hS
    exact ⟨o,es,ep,tb,hm.heap S _ VM ho,rest⟩
   show wpAny _ A.in1 (holding [v] (setAdd S v) >>= _) _ _ s'
   refine wpAny_bind (wpAny_holding ?_)
   unfold setAdd
   refine wpAny_holding ?_
   refine wpAny_bind (knd.pyHash (k:=val i) KJ ?_)
   have OG:(met val i).length+1 < scanBound:=by have:=yC val i; omega
   refine wpAny_setAddHashed_of (knd:=knd) (s:={ s' with toks:=s'.toks+1 }) KJ FN Co OG fun h' VN Xo=>?_
   have Xp:h'.SetOf knd S (fun k'=>decide (k'∈met val (i+1))) (met val (i+1)).length :=
    SetOf_congr Xo (fun k'=>by
     simp only [met,F8,Bool.decide_or]) (by
     simp only [met,MD,decide_eq_true_eq]
     split <;> simp)
   refine wpAny_pure ⟨plainId_quiet Ru _,ih (i+1) _ (by omega) fN (W.frame _ s' _ _ TH (IZ _) fun b hb o e=>?_) Xp fun JK TJ TK=>?_⟩
   · rw [VN.2 b (fun h:b=S=>ME (by rw [← h]; exact hb))]; exact e
   · refine hR JK (Moved.trans W.gtrans ((hm.mono Cj).then_heap (IZ _) fun b o hb e=>?_) TJ) TK
     rw [VN.2 b (fun h:b=S=>hb (by rw [h]; exact jz))]; exact e
end
section
variable {prog:Program} {w:World} {A:Around} {E:Value→Shared→Prop} {s:Shared} {K:Type} [DecidableEq K] {knd:PySem.KeyKind prog w K}
theorem oI {l:Addr} {items:Array Value} {val:Nat→K} {Q:Value→Shared→Prop}
  (hh:A.handled=none) (hl:s.heap.IsList l items) (hi:∀ (i:Nat) (v:Value),items[i]?=some v→knd.is (val i) v=true∧v.scannable=true) (hb:items.size+1 < scanBound)
  (h:∀ (h':Heap) (tk:Nat),h'.SetOf knd s.heap.objs.size (fun k'=>decide (k'∈met val items.size)) (met val items.size).length →
    (∀ b o,b < s.heap.objs.size→s.heap.get? b=some o→h'.get? b=some o)→s.heap.objs.size < h'.objs.size→Q (.ref s.heap.objs.size) { s with heap:=h',toks:=tk }) :
  wpAny (model prog w) A (call (.type "set") [.ref l]) Q E s:=by
 obtain ⟨c,tl,TL⟩:=vJ.mro
 have OH:=vJ.made
 have Cj:=vJ.sub
 refine wpAny_call (codeAny_of_tree ?_)
 show wpAny _ _ (callAny (.type "set") _) _ _ _
 refine wpAny_pure ⟨QJ _ (by decide +kernel),codeAny_builtin F.entry_type_call ?_⟩
 rw [Around.under_plain (weight_type_call_type "set" [.ref l] []) rfl]
 have h1:=vJ.notType
 have h2:=vJ.canCreate
 have Xq:=PySem.F.typeCall_set_1 (.ref l)
 repeat (any_goals (first | assumption | wp_step))
 refine codeAny_mono (code_set_new_1 (.ref l) (E:=E) (Q₁:=fun obj s₁=>∃ led:Bool,obj = .ref s.heap.objs.size∧s₁={ s with heap:=s.heap.push (fB led) }) fun led=>⟨led,rfl,rfl⟩) fun r s₁ hr=>?_
 cases r with
 | error e=>exact hr
 | ok fl =>
   cases fl with
   | ret obj =>
     obtain ⟨led,rfl,rfl⟩:=hr
     have hS:(s.heap.push (fB led)).get? s.heap.objs.size=some (fB led):=m9 _ rfl
     have hT:Shared.TypeIs { s with heap:=s.heap.push (fB led) } (.ref s.heap.objs.size) "set":=⟨_,hS,rfl⟩
     have Xr:=vJ.init.lookup
     have SI:=vJ.init.bind (.ref s.heap.objs.size)
     repeat (any_goals (first | assumption | wp_step))
     refine codeAny_mono (codeAny_call_builtin (R:=wants (fun r s₂=>r = .none∧∃ h' tk,s₂={ s with heap:=h',toks:=tk } ∧
       h'.SetOf knd s.heap.objs.size (fun k'=>decide (k'∈met val items.size)) (met val items.size).length ∧
       (∀ b o,b < s.heap.objs.size→s.heap.get? b=some o→h'.get? b=some o)) E) vJ.init.plain PySem.F.entry_set_init (check_set_init_1 hT ?_)) fun r₂ s₂ K3=>?_
     · obtain ⟨ol,FU,BN,nl,FV⟩:=hl
       obtain ⟨TM,Cp,OI,wF⟩:=ol
       simp only at BN FV
       subst BN; subst FV
       have K4:(s.heap.push (fB led)).get? l=some { cls:=.type "list",dict:=Cp,data:=.seq items nl,slots:=wF }:=cY _ FU
       have TN:=sub_list_set
       have TQ:=sub_list_frozenset
       have pZ:(Value.type "list" == Value.type "dict")=false:=by decide
       have F9:(s.heap.push (fB led)).IsList l items:=⟨_,K4,rfl,nl,rfl⟩
       unfold Builtin.«set.__init__» noKeywords Builtin.Frozenset.updateFrom
       generalize TR:pyIter=PI
       wp_walk
       subst TR
       refine wpAny_pyIter_list F9 ?_
       refine wpAny_bind (wpAny_runValue ?_)
       have OJ:l < s.heap.objs.size:=dq FU
       have TU:A.in1.in1.in1.handled=none:=by simp [hh]
       have K5:l≠(s.heap.push (fB led)).objs.size:=by
        rw [vO]; exact gF (M9 OJ)
       have ME:s.heap.objs.size∉[(s.heap.push (fB led)).objs.size,l]:=by
        rw [vO]; simp only [dS,x6,fD,or_false,not_or]
        exact ⟨gF (IU _),A_ OJ⟩
       refine rj ((Walks.list TU _ l K5 items).toS) s.heap.objs.size
        ME val hi hb (items.size - 0) 0 _ (by omega) (kd _)
        ⟨⟨_,m9 _ rfl,rfl,rfl⟩,(F9.push _)⟩ ?hS0 ?hR
       case hS0 =>
        have K6:((s.heap.push (fB led)).push { cls:=.type "list_iterator",data:=.fields #[.ref l,.int 0 0] }).get? s.heap.objs.size
          = some (fB led):=cY _ hS
        exact SetOf_congr ((setObjOf_fresh (knd:=knd) led).setOf K6 (by unfold scanBound; omega)) (fun _=>by simp [met]) rfl
       case hR =>
        intro s' hm Co
        obtain ⟨h',g',d',Cq,ND⟩:=s'
        have eg:g'=s.gens:=hm.gens
        have ed:d'=s.drawn:=hm.drawn
        have eo:ND=s.os:=hm.os
        subst eg; subst ed; subst eo
        show wpAny _ _ _ _ _ _
        refine wpAny_pure ?_
        show wpAny _ _ (ret Value.none) _ _ _
        refine wpAny_pure ⟨rfl,h',Cq,rfl,Co,fun b o hb e=>?_⟩
        have KY:b≠s.heap.objs.size:=gF hb
        have Ie:b≠(s.heap.push (fB led)).objs.size:=by
         rw [vO]; exact gF (M9 hb)
        exact hm.heap b o (by simp only [dS,x6,fD,or_false,not_or]; exact ⟨KY,Ie⟩) (cY _ (cY _ e))
     · cases r₂ with
       | error e=>exact K3
       | ok TV =>
         cases TV with
         | ret r =>
           obtain ⟨rfl,h',tk,rfl,Co,OK⟩:=K3
           repeat (any_goals (first | assumption | wp_step))
           refine h _ _ Co OK ?_
           obtain ⟨o,_,_,_,ho,_⟩:=Co
           exact dq ho
         | _=>exact K3.elim
   | _=>exact hr.elim
theorem mK {l:Addr} {items:Array Value} {val:Nat→K} {Q:Value→Shared→Prop}
  (hh:A.handled=none) (hl:s.heap.IsTuple l items) (hi:∀ (i:Nat) (v:Value),items[i]?=some v→knd.is (val i) v=true∧v.scannable=true) (hb:items.size+1 < scanBound)
  (h:∀ (h':Heap) (tk:Nat),h'.SetOf knd s.heap.objs.size (fun k'=>decide (k'∈met val items.size)) (met val items.size).length →
    (∀ b o,b < s.heap.objs.size→s.heap.get? b=some o→h'.get? b=some o)→s.heap.objs.size < h'.objs.size→Q (.ref s.heap.objs.size) { s with heap:=h',toks:=tk }) :
  wpAny (model prog w) A (call (.type "set") [.ref l]) Q E s:=by
 obtain ⟨c,tl,TL⟩:=vJ.mro
 have OH:=vJ.made
 have Cj:=vJ.sub
 refine wpAny_call (codeAny_of_tree ?_)
 show wpAny _ _ (callAny (.type "set") _) _ _ _
 refine wpAny_pure ⟨QJ _ (by decide +kernel),codeAny_builtin F.entry_type_call ?_⟩
 rw [Around.under_plain (weight_type_call_type "set" [.ref l] []) rfl]
 have h1:=vJ.notType
 have h2:=vJ.canCreate
 have Xq:=PySem.F.typeCall_set_1 (.ref l)
 repeat (any_goals (first | assumption | wp_step))
 refine codeAny_mono (code_set_new_1 (.ref l) (E:=E) (Q₁:=fun obj s₁=>∃ led:Bool,obj = .ref s.heap.objs.size∧s₁={ s with heap:=s.heap.push (fB led) }) fun led=>⟨led,rfl,rfl⟩) fun r s₁ hr=>?_
 cases r with
 | error e=>exact hr
 | ok fl =>
   cases fl with
   | ret obj =>
     obtain ⟨led,rfl,rfl⟩:=hr
     have hS:(s.heap.push (fB led)).get? s.heap.objs.size=some (fB led):=m9 _ rfl
     have hT:Shared.TypeIs { s with heap:=s.heap.push (fB led) } (.ref s.heap.objs.size) "set":=⟨_,hS,rfl⟩
     have Xr:=vJ.init.lookup
     have SI:=vJ.init.bind (.ref s.heap.objs.size)
     repeat (any_goals (first | assumption | wp_step))
     refine codeAny_mono (codeAny_call_builtin (R:=wants (fun r s₂=>r = .none∧∃ h' tk,s₂={ s with heap:=h',toks:=tk } ∧
       h'.SetOf knd s.heap.objs.size (fun k'=>decide (k'∈met val items.size)) (met val items.size).length ∧
       (∀ b o,b < s.heap.objs.size→s.heap.get? b=some o→h'.get? b=some o)) E) vJ.init.plain PySem.F.entry_set_init (check_set_init_1 hT ?_)) fun r₂ s₂ K3=>?_
     · obtain ⟨ol,FU,BN,nl,FV⟩:=hl
       obtain ⟨TM,Cp,OI,wF⟩:=ol
       simp only at BN FV
       subst BN; subst FV
       have K4:(s.heap.push (fB led)).get? l=some { cls:=.type "tuple",dict:=Cp,data:=.seq items nl,slots:=wF }:=cY _ FU
       have TN:=sub_tuple_set
       have TQ:=sub_tuple_frozenset
       have pZ:(Value.type "tuple" == Value.type "dict")=false:=by decide
       have F9:(s.heap.push (fB led)).IsTuple l items:=⟨_,K4,rfl,nl,rfl⟩
       unfold Builtin.«set.__init__» noKeywords Builtin.Frozenset.updateFrom
       generalize TR:pyIter=PI
       wp_walk
       subst TR
       refine wpAny_pyIter_tuple F9 ?_
       refine wpAny_bind (wpAny_runValue ?_)
       have OJ:l < s.heap.objs.size:=dq FU
       have TU:A.in1.in1.in1.handled=none:=by simp [hh]
       have K5:l≠(s.heap.push (fB led)).objs.size:=by
        rw [vO]; exact gF (M9 OJ)
       have ME:s.heap.objs.size∉[(s.heap.push (fB led)).objs.size,l]:=by
        rw [vO]; simp only [dS,x6,fD,or_false,not_or]
        exact ⟨gF (IU _),A_ OJ⟩
       refine rj ((Walks.tuple TU _ l K5 items).toS) s.heap.objs.size
        ME val hi hb (items.size - 0) 0 _ (by omega) (kd _)
        ⟨⟨_,m9 _ rfl,rfl,rfl⟩,(F9.push _)⟩ ?hS0 ?hR
       case hS0 =>
        have K6:((s.heap.push (fB led)).push { cls:=.type "tuple_iterator",data:=.fields #[.ref l,.int 0 0] }).get? s.heap.objs.size
          = some (fB led):=cY _ hS
        exact SetOf_congr ((setObjOf_fresh (knd:=knd) led).setOf K6 (by unfold scanBound; omega)) (fun _=>by simp [met]) rfl
       case hR =>
        intro s' hm Co
        obtain ⟨h',g',d',Cq,ND⟩:=s'
        have eg:g'=s.gens:=hm.gens
        have ed:d'=s.drawn:=hm.drawn
        have eo:ND=s.os:=hm.os
        subst eg; subst ed; subst eo
        show wpAny _ _ _ _ _ _
        refine wpAny_pure ?_
        show wpAny _ _ (ret Value.none) _ _ _
        refine wpAny_pure ⟨rfl,h',Cq,rfl,Co,fun b o hb e=>?_⟩
        have KY:b≠s.heap.objs.size:=gF hb
        have Ie:b≠(s.heap.push (fB led)).objs.size:=by
         rw [vO]; exact gF (M9 hb)
        exact hm.heap b o (by simp only [dS,x6,fD,or_false,not_or]; exact ⟨KY,Ie⟩) (cY _ (cY _ e))
     · cases r₂ with
       | error e=>exact K3
       | ok TV =>
         cases TV with
         | ret r =>
           obtain ⟨rfl,h',tk,rfl,Co,OK⟩:=K3
           repeat (any_goals (first | assumption | wp_step))
           refine h _ _ Co OK ?_
           obtain ⟨o,_,_,_,ho,_⟩:=Co
           exact dq ho
         | _=>exact K3.elim
   | _=>exact hr.elim
end
end VT
namespace VT
open PySem PySem.Spec PyProof.Rows L2
def K7 (P:Program) (w:World) (a:Addr) (f:Str→Bool) (n:Nat):HO:=.ext fun h=>h.SetOf (PySem.strKind P w) a f n
def once (ys:List Str):List Str:=met (fun i=>ys.getD i Str.empty) ys.length
section
variable {X:Cx}
theorem rl {ys:List Str} {aK:List Value} (r:Vals (ys.map V.str) aK) (i:Nat) (v:Value) (h:aK.toArray[i]?=some v):(PySem.strKind X.prog X.w).is (ys.getD i Str.empty) v=true∧v.scannable=true:=by
 have h':aK[i]?=some v:=by simpa using h
 have hl:=r.length
 rw [b_] at hl
 have hi:i < ys.length:=by have:=(gh.mp h').1; omega
 obtain ⟨u,hu,ru⟩:=r.get (show (ys.map V.str)[i]?=some (.str ys[i]) by rw [k9,j_ hi]; rfl)
 rw [h'] at hu
 cases hu
 obtain ⟨t,rfl⟩:=ru
 refine ⟨?_,rfl⟩
 rw [List.getD_eq_getElem?_getD,j_ hi]
 show Value.isStrOf ys[i] (.str ys[i] t)=true
 simp [Value.isStrOf]
theorem qx (hc:X.calm=true):cU X (.type "set") (fun xs H Q=>∃ (p:Addr) (ys:List Str),xs=[.ref p]∧(eI X.K H p (ys.map V.str)∨dw X.K H p (ys.map V.str))∧ys.length < 4000 ∧
  ∀ a,H a=none→Q (.ref a) (upd H a (K7 X.prog X.w a (fun k=>decide (k∈once ys)) (once ys).length))):=by
 intro pins s σ H xs us Q I r h
 obtain ⟨p,ys,rfl,hq,hl,q⟩:=h
 obtain ⟨u,rfl,ru⟩:=vals1 r
 cases ru
 have fin:∀ (n:Nat),n=ys.length→∀ (h':Heap) (tk:Nat),h'.SetOf (PySem.strKind X.prog X.w) s.heap.objs.size (fun k'=>decide (k'∈met (fun i=>ys.getD i Str.empty) n)) (met (fun i=>ys.getD i Str.empty) n).length →
   (∀ b o,b < s.heap.objs.size→s.heap.get? b=some o→h'.get? b=some o)→EP X pins σ Q (.ref s.heap.objs.size) { s with heap:=h',toks:=tk }:=fun n hn h' tk hS hk=>by
  subst hn
  refine ⟨.ref s.heap.objs.size,_,I.laid (a:=s.heap.objs.size) (t':=tk) (fun b o e=>hk b o (dq e) e) (du _) ?_,rfl,q _ I.fresh⟩
  refine ⟨hS,?_,fun h1 h2 z k=>?_⟩
  · obtain ⟨o,_,_,_,ho,_⟩:=hS
    exact ⟨o,ho⟩
  · obtain ⟨o,es,ep,t,ho,rest⟩:=z
    exact ⟨o,es,ep,t,k o ho,rest⟩
 rcases hq with hq | hq
 · obtain ⟨aK,rv,pl,hz⟩:=I.list hq
   have e:=rv.length
   rw [b_] at e
   exact oI (knd:=PySem.strKind X.prog X.w) (val:=fun i=>ys.getD i Str.empty) (I.ok.hd hc) pl.isList (rl rv) (by unfold scanBound; simp; omega) fun h' tk hS hk _=>fin _ (by simp [e]) h' tk hS hk
 · obtain ⟨aK,rv,pl,hz⟩:=I.tuple hq
   have e:=rv.length
   rw [b_] at e
   exact mK (knd:=PySem.strKind X.prog X.w) (val:=fun i=>ys.getD i Str.empty) (I.ok.hd hc) (show s.heap.IsTuple p aK.toArray from pl) (rl rv) (by unfold scanBound; simp; omega) fun h' tk hS hk _=>fin _ (by simp [e]) h' tk hS hk
theorem qy:cU X (.builtin "len") (fun xs H Q=>∃ a f n,xs=[.ref a]∧H a=some (K7 X.prog X.w a f n)∧Q (.int (n:Int)) H):=by
 intro pins s σ H xs us Q I r h
 obtain ⟨a,f,n,rfl,ha,q⟩:=h
 obtain ⟨u,rfl,ru⟩:=vals1 r
 cases ru
 obtain ⟨⟨o,es,ep,t,ho,hex,hd,_,_,hb,hf,hn⟩,_⟩:=(show bM X.prog X.w H s.heap a (K7 X.prog X.w a f n) from I.bC a _ ha)
 refine PySem.call_len_set ho hex hd hf (by unfold scanBound at hb; omega) ?_
 rw [hn]
 exact ⟨.int n,H,I.tok _,⟨_,rfl⟩,q⟩
theorem boot_set:bootBuiltins "set" = some (.type "set"):=by decide +kernel
end
section
variable {X:Cx} {Z:Zc} {a:Expr} {fa:FE} {p1 p2 F_ zF:Pos}
def F' (fa:FE):FP:=fun ρ Q=>fa ρ fun x=>∃ ys:List Str,(x = .lst (ys.map .str)∨x = .tup (ys.map .str))∧ys.length < 4000∧Q (.vw (.int ((once ys).length:Int)))
theorem sJ {K:PySem.W.Frag} {H:Hp} {A:List Addr}:∀ {ys:List Str} {vs:List V},aG K H A (ys.map T.str) vs→vs=ys.map V.str
 | [],vs,h=>by simpa only [Hy,aG] using h
 | y :: ys,vs,h=>by
   simp only [jr,aG] at h
   obtain ⟨v,r,rfl,h1,h2⟩:=h
   simp only [At] at h1
   rw [h1,sJ h2]
   rfl
theorem zG (hc:X.calm=true) (Xs:Gl X "len") (Xu:X.mg "len" = none) (Xv:Gl X "set") (TX:X.mg "set" = none) (ha:VR X Z a fa)
  (he:starEach [.Call (.Name "set" p2) [a] [] zF] X.env=(false,eval (.Call (.Name "set" p2) [a] [] zF) X.env) :: starEach [] X.env:=by rfl) (fM:(backTo F_ (starEach [] X.env)).any (·.1)=false:=by rfl)
  (VQ:starEach [a] X.env=(false,eval a X.env) :: starEach [] X.env:=by rfl) (TY:(backTo zF (starEach [] X.env)).any (·.1)=false:=by rfl) :
  VP X Z (.Call (.Name "len" p1) [.Call (.Name "set" p2) [a] [] zF] [] F_) (F' fa):=.mk fun tm =>
 PE.weak (kj qy Xs Xu gC (bu (qX (qx hc) Xv TX boot_set (bu (ha tm) cR VQ) (by decide) (by decide) VQ TY) cR he) (by decide) (by decide) he fM) fun σ H Q ⟨ρ,O,q,I,hf,k⟩ =>
  ⟨ρ,O,_,I,hf,fun x hx v H1 s1 a1=>by
    obtain ⟨ys,hy,hl,hq⟩:=hx
    have src:∃ p,v = .ref p∧(eI X.K H1 p (ys.map V.str)∨dw X.K H1 p (ys.map V.str)):=by
     rcases hy with rfl | rfl
     · obtain ⟨p,vs,rfl,h1,h2⟩:=a1.lst
       rw [sJ h2] at h1
       exact ⟨p,rfl,.inl h1⟩
     · obtain ⟨p,vs,rfl,h1,h2⟩:=a1.tup
       rw [sJ h2] at h1
       exact ⟨p,rfl,.inr h1⟩
    obtain ⟨p,rfl,hs⟩:=src
    exact ⟨p,ys,rfl,hs,hl,fun b hb=>⟨b,_,_,rfl,aU,k _ hq _ _ (s1.trans (aS hb)) ⟨(I.same s1).same (aS hb),bE⟩⟩⟩⟩
end
end VT
namespace L2
open PySem PySem.Spec PyProof.Rows
section
variable (P:Program) (w:World)
end
section
variable {P:Program} {w:World} {H H':Hp} {h h':Heap} {a:Addr} {o:HO}
end
section
variable {P:Program} {w:World} {H:Hp} {h h':Heap} {x e:Addr} {o':HO}
end
section
variable {fs Nc ex RN:List Addr} {H H1 H2:Hp} {h h1 h2 h':Heap} {a x e:Addr} {o:HO}
end
section
variable {X:Cx} {pins:List (Addr×Obj)} {σ:List (Option V)} {H H':Hp} {s:Shared} {h':Heap}
end
section
variable {X:Cx}
variable {a b:Expr} {ta tb:TE} {pos:Pos}
variable {tA Ni:TT} {rest:List Expr}
end
section
variable {X:Cx} {pins:List (Addr×Obj)} {σ:St} {H:Hp} {s:Shared} {a:Addr} {xs ys:List V}
end
section
variable {X:Cx} {pins:List (Addr×Obj)} {σ:St} {H:Hp} {s:Shared} {E:Value→Shared→Prop}
end
section
variable {X:Cx} {st:Stmt} {rest:List Stmt} {t u:TS} {e:Expr} {te:TE} {pos:Pos}
end
section
variable {X:Cx} {pos:Pos}
end
section
variable {X:Cx} {pos:Pos}
end
section
variable {X:Cx} {tg:Expr}
end
section
variable {X:Cx} {a b c:Expr} {ta tb tc:TE} {pos:Pos}
end
section
variable {X:Cx} {a b c:Expr} {ta tb tc:TE} {pos:Pos}
end
section
variable {prog:Program} {w:World} {A:Around} {E:Value→Shared→Prop} {s:Shared} {K:PySem.W.Frag} {x dx C f:Addr} {mA:Str→Option Value} {name:Str} {v:Value}
end
section
variable {P:Program} {w:World} {H H':Hp} {h h':Heap} {a C dx:Addr} {fs Nc:List (Str×V)}
end
section
variable {X:Cx} {pins:List (Addr×Obj)} {σ:St} {H:Hp} {s:Shared} {a C dx:Addr} {fs:List (Str×V)} {f:Str} {v:V} {A:Around} {E:Value→Shared→Prop}
end
section
variable {X:Cx} {o e value:Expr} {f:Str} {pos pos' qd:Pos} {ta tv:TE}
end
section
variable {X:Cx} {pins:List (Addr×Obj)} {σ:St} {H:Hp} {s:Shared} {A:Around} {E:Value→Shared→Prop} {Q:Value→Shared→Prop} {c:Value} {b:Bool}
end
section
variable {X:Cx} {e:Expr} {es:List Expr} {te:TE} {t:TA} {pos:Pos}
end
section
variable {X:Cx} {pins:List (Addr×Obj)} {σ:St} {H:Hp} {s s':Shared}
end
section
variable {X:Cx} {CX:v7} {k:Nat} {f C:Addr} {fd:FuncData} {ps:List Str} {sp:Sp} {E6:List V} {ds:List Value} {E:XK} {x m:Str} {p pos apos:Pos} {e o:Expr} {es:List Expr} {ta:TE} {t:TA}
end
section
variable {X:Cx} {CX:v7} {k:Nat} {f C:Addr} {fd:FuncData} {ps ks:List Str} {sp:Sp} {E:XK} {x m:Str} {p pos apos Sh:Pos} {e o:Expr} {es:List Expr} {Wr:List Keyword} {te ta:TE} {t tk:TA} {nm:Option Str}
variable {g:List Value→List Value→List Value} {gV:List V→List V→List V}
end
section
variable {X:Cx} {x:Str} {p pos:Pos} {e:Expr} {es:List Expr} {t:TA} {id T:String} {r:List V→Hp→VK→Prop}
end
section
variable {κ:Type} [DecidableEq κ]
def iB (aZ:List (κ×V)) (k:κ):Option V:=(aZ.find? fun kv=>decide (kv.1=k)).map (·.2)
def putK (aZ:List (κ×V)) (k:κ) (v:V):List (κ×V) :=
 if (aZ.any fun kv=>decide (kv.1=k))=true then aZ.map (fun kv=>if kv.1=k then (kv.1,v) else kv) else aZ ++ [(k,v)]
def Ih (aZ:List (κ×V)) (k:κ):List (κ×V):=aZ.filter fun kv=>decide (kv.1≠k)
theorem kD {p:κ×V} {r:List (κ×V)} {k:κ} (e:p.1=k):iB (p :: r) k=some p.2:=by simp [iB,Ms,e]
theorem kE {p:κ×V} {r:List (κ×V)} {k:κ} (e:¬ p.1=k):iB (p :: r) k=iB r k:=by simp [iB,Ms,e]
theorem oJ (k:κ):∀ aZ:List (κ×V),(aZ.any fun kv=>decide (kv.1=k))=(iB aZ k).isSome
 | []=>rfl
 | p :: r=>by
   rw [Mt]
   by_cases e:p.1=k
   · simp only [kD e,decide_eq_true e,Bool.true_or,Option.isSome_some]
   · rw [kE e,decide_eq_false e,Bool.false_or]; exact oJ k r
theorem uH (aZ:List (κ×V)) (k:κ) (v:V):(putK aZ k v).length≤aZ.length+1:=by
 unfold putK
 split
 · rw [b_]; omega
 · rw [mf,IW,List.length_nil]; omega
theorem Cr {aZ:List (κ×V)} {k:κ} (v:V) (h:iB aZ k=none):putK aZ k v=aZ ++ [(k,v)]:=by
 unfold putK
 rw [oJ,h]
 exact if_neg (by decide)
theorem jK.zH {o:Option V} {u:Option Value} (r:jK o u):o.isSome=u.isSome:=by
 cases o with
 | none=>cases u with
   | none=>rfl
   | some _=>exact (show False from r).elim
 | some _=>cases u with
   | none=>exact (show False from r).elim
   | some _=>rfl
theorem jK.getD {o:Option V} {u:Option Value} {d:V} {d':Value} (r:jK o u) (rd:RelV d d'):RelV (o.getD d) (u.getD d'):=by
 cases o with
 | none=>cases u with
   | none=>exact rd
   | some _=>exact (show False from r).elim
 | some _=>cases u with
   | none=>exact (show False from r).elim
   | some _=>exact r
theorem KV.val {aZ:List (κ×V)} {vs:List (κ×Value)} (r:KV aZ vs) (k:κ):jK (iB aZ k) (valueAt vs k):=by
 unfold KV at r
 induction r with
 | nil=>exact True.intro
 | @cons p q ps qs h t ih =>
   obtain ⟨h1,h2⟩:=h
   by_cases e:p.1=k
   · have e':q.1=k:=h1.symm.trans e
     have b:valueAt (q :: qs) k=some q.2:=by simp [valueAt,Ms,e']
     rw [kD e,b]; exact h2
   · have e':¬ q.1=k:=fun z=>e (h1.trans z)
     have b:valueAt (q :: qs) k=valueAt qs k:=by simp [valueAt,Ms,e']
     rw [kE e,b]; exact ih
theorem KV.any {aZ:List (κ×V)} {vs:List (κ×Value)} (r:KV aZ vs) (k:κ):(aZ.any fun kv=>decide (kv.1=k))=vs.any fun kv=>decide (kv.1=k):=by
 unfold KV at r
 induction r with
 | nil=>rfl
 | cons h t ih=>rw [Mt,Mt,ih,h.1]
theorem KV.K8 {aZ:List (κ×V)} {vs:List (κ×Value)} (r:KV aZ vs) (k:κ) {y:V} {u:Value} (ry:RelV y u) :
  KV (aZ.map fun kv=>if kv.1=k then (kv.1,y) else kv) (vs.map fun kv=>if kv.1=k then (kv.1,u) else kv):=by
 unfold KV at r ⊢
 induction r with
 | nil=>exact .nil
 | @cons p q ps qs h t ih =>
   rw [jr,jr]
   refine .cons ?_ ih
   obtain ⟨h1,h2⟩:=h
   by_cases e:p.1=k
   · rw [if_pos e,if_pos (h1.symm.trans e)]; exact ⟨h1,ry⟩
   · rw [if_neg e,if_neg (fun z=>e (h1.trans z))]; exact ⟨h1,h2⟩
theorem KV.put {aZ:List (κ×V)} {vs:List (κ×Value)} (r:KV aZ vs) (k:κ) {y:V} {u:Value} (ry:RelV y u):KV (putK aZ k y) (stored vs k u):=by
 unfold putK stored
 rw [r.any k]
 by_cases e:(vs.any fun kv=>decide (kv.1=k))=true
 · rw [if_pos e,if_pos e]; exact r.K8 k ry
 · rw [if_neg e,if_neg e]; exact Paired.snoc r ⟨rfl,ry⟩
theorem KV.drop {aZ:List (κ×V)} {vs:List (κ×Value)} (r:KV aZ vs) (k:κ):KV (Ih aZ k) (without vs k):=by
 unfold KV at r ⊢
 unfold Ih without
 induction r with
 | nil=>exact .nil
 | @cons p q ps qs h t ih =>
   obtain ⟨h1,h2⟩:=h
   rw [List.filter_cons,List.filter_cons]
   by_cases e:p.1=k
   · have a:¬ decide (p.1≠k)=true:=by simp [e]
     have b:¬ decide (q.1≠k)=true:=by simp [h1.symm.trans e]
     rw [if_neg a,if_neg b]; exact ih
   · have e':¬ q.1=k:=fun z=>e (h1.trans z)
     have a:decide (p.1≠k)=true:=by simp [e]
     have b:decide (q.1≠k)=true:=by simp [e']
     rw [if_pos a,if_pos b]; exact .cons ⟨h1,h2⟩ ih
theorem KV.keys {aZ:List (κ×V)} {vs:List (κ×Value)} (r:KV aZ vs):aZ.map (·.1)=vs.map (·.1):=by
 unfold KV at r
 induction r with
 | nil=>rfl
 | cons h t ih=>rw [jr,jr,ih,h.1]
theorem KV.length {aZ:List (κ×V)} {vs:List (κ×Value)} (r:KV aZ vs):aZ.length=vs.length:=Paired.length r
end
theorem uI {P:Program} {w:World} {k:Key} {u:Value} (r:RelV (kV k) u):(bB P w).is k u=true:=by
 cases k with
 | inl i=>obtain ⟨t,e⟩:=(show ∃ t,u=Value.int i t from r); subst e; exact t8 P w i t
 | inr x=>obtain ⟨t,e⟩:=(show ∃ t,u=Value.str x t from r); subst e; exact t9 P w x t
theorem rm {P:Program} {w:World}:∀ {ks:List Key} {us:List Value},Vals (ks.map kV) us→ItemsAre (bB P w) ks us
 | [],_,r=>by rw [Hy] at r; cases r; exact .nil
 | k :: ks,_,r=>by
   rw [jr] at r
   cases r with
   | cons h t=>exact .cons (uI h) (rm t)
abbrev KT (H:Hp):List (List Key×V)→List (List Key×Addr×Value)→Prop:=Paired fun p q=>p.1=q.1∧H q.2.1=some (.tup (p.1.map kV))∧RelV p.2 q.2.2
theorem KT.val {H:Hp} {aZ:List (List Key×V)} {xs:List (List Key×Addr×Value)} (r:KT H aZ xs) (k:List Key):jK (iB aZ k) ((atKey xs k).map (·.2)):=by
 induction r with
 | nil=>exact True.intro
 | @cons p q ps qs h t ih =>
   obtain ⟨h1,_,h2⟩:=h
   by_cases e:p.1=k
   · have e':q.1=k:=h1.symm.trans e
     have b:atKey (q :: qs) k=some q.2:=by simp [atKey,Ms,e']
     rw [kD e,b]; exact h2
   · have e':¬ q.1=k:=fun z=>e (h1.trans z)
     have b:atKey (q :: qs) k=atKey qs k:=by simp [atKey,Ms,e']
     rw [kE e,b]; exact ih
theorem KT.K8 {H:Hp} {aZ:List (List Key×V)} {xs:List (List Key×Addr×Value)} (r:KT H aZ xs) (k:List Key) {y:V} {u:Value} (ry:RelV y u) :
  KT H (aZ.map fun kv=>if kv.1=k then (kv.1,y) else kv) (xs.map (putAt k u)):=by
 induction r with
 | nil=>exact .nil
 | @cons p q ps qs h t ih =>
   rw [jr,jr]
   refine .cons ?_ ih
   obtain ⟨h1,h2,h3⟩:=h
   unfold putAt
   by_cases e:p.1=k
   · rw [if_pos e,if_pos (h1.symm.trans e)]; exact ⟨h1,h2,ry⟩
   · rw [if_neg e,if_neg (fun z=>e (h1.trans z))]; exact ⟨h1,h2,h3⟩
theorem KT.put {H:Hp} {aZ:List (List Key×V)} {xs:List (List Key×Addr×Value)} (r:KT H aZ xs) (k:List Key) {b:Addr} {y:V} {u:Value} (hb:H b=some (.tup (k.map kV))) (ry:RelV y u) :
  KT H (putK aZ k y) (storedH xs k b u):=by
 have e:(aZ.any fun kv=>decide (kv.1=k))=(atKey xs k).isSome:=by
  rw [oJ,(r.val k).zH,Option.isSome_map]
 unfold putK storedH
 rw [e]
 by_cases q:(atKey xs k).isSome=true
 · rw [if_pos q,if_pos q]; exact r.K8 k ry
 · rw [if_neg q,if_neg q]; exact Paired.snoc r ⟨rfl,hb,ry⟩
theorem KT.keeps {H H':Hp} {aZ:List (List Key×V)} {xs:List (List Key×Addr×Value)} (r:KT H aZ xs) (ht:∀ b ys,H b=some (.tup ys)→H' b=some (.tup ys)):KT H' aZ xs :=
 Paired.mE r fun _ _ z=>⟨z.1,ht _ _ z.2.1,z.2.2⟩
section
variable {P:Program} {w:World} {H:Hp} {h:Heap} {a:Addr}
theorem Ii {u:HO} (ok:jt P w H h) (e:Rd H a u):bM P w H h a u:=e.ok ok
theorem uJ {aZ:List (Key×V)} (ok:jt P w H h) (e:Rd H a (.dK aZ)):aZ.length≤sizeLine∧(a == sysModules)=false∧∃ vs,KV aZ vs∧h.DictOf (bB P w) a vs :=
 show bM P w H h a (.dK aZ) from Ii ok e
theorem OL {aZ:List (Key×V)} (ok:jt P w H h) (e:H a=some (.dK aZ)):aZ.length≤sizeLine∧(a == sysModules)=false∧∃ vs,KV aZ vs∧h.DictOf (bB P w) a vs:=uJ ok (.inl e)
theorem wG {ks:List Key} (ok:jt P w H h) (e:H a=some (.tup (ks.map kV))):(tupleKind (bB P w)).is h ks a:=by
 obtain ⟨_,aK,r,o,h1,h2,n,h3⟩:=(show bM P w H h a (.tup (ks.map kV)) from ok a _ e)
 exact ⟨o,aK.toArray,n,h1,h2,h3,by simpa using rm r⟩
theorem yD {aZ:List (List Key×V)} (ok:jt P w H h) (e:Rd H a (.dT aZ)):aZ.length≤sizeLine∧(a == sysModules)=false ∧
  ∃ xs,KT H aZ xs∧h.DictOfH (tupleKind (bB P w)) a xs:=by
 obtain ⟨z,y,xs,r,o,es,ep,h1,h2,h3,h4,h5⟩:=(show bM P w H h a (.dT aZ) from Ii ok e)
 refine ⟨z,y,xs,r,o,es,ep,h1,h2,h3,h4,fun x hx=>?_,h5⟩
 have all:∀ {l:List (List Key×V)} {m:List (List Key×Addr×Value)},KT H l m→∀ x∈m,(tupleKind (bB P w)).is h x.1 x.2.1:=by
  intro l m q
  induction q with
  | nil=>intro x hx; exact nomatch hx
  | @cons p q ps qs hq t ih =>
    intro x hx
    rcases dS.mp hx with e | hx
    · subst e
      exact wG ok (by rw [← hq.1]; exact hq.2.1)
    · exact ih x hx
 exact all r x hx
end
def oM (H:Hp) (a:Addr) (y:V) (r:Option V):Prop :=
 (∃ aZ k,Rd H a (.dK aZ)∧y=kV k∧r=iB aZ k)∨∃ aZ k b,Rd H a (.dT aZ)∧y = .ref b∧H b=some (.tup (k.map kV))∧r=iB aZ k
def Ga (H:Hp) (a:Addr) (y v:V) (H':Hp):Prop :=
 (∃ aZ k,H a=some (.dK aZ)∧y=kV k∧aZ.length < sizeLine∧H'=upd H a (.dK (putK aZ k v))) ∨
 ∃ aZ k b,H a=some (.dT aZ)∧y = .ref b∧H b=some (.tup (k.map kV))∧aZ.length < sizeLine∧H'=upd H a (.dT (putK aZ k v))
theorem oM.k {H:Hp} {a:Addr} {aZ:List (Key×V)} {k:Key} (e:H a=some (.dK aZ)):oM H a (kV k) (iB aZ k):=.inl ⟨aZ,k,.inl e,rfl,rfl⟩
theorem oM.t {H:Hp} {a b:Addr} {aZ:List (List Key×V)} {k:List Key} (e:H a=some (.dT aZ)) (eb:H b=some (.tup (k.map kV))):oM H a (.ref b) (iB aZ k):=.inr ⟨aZ,k,b,.inl e,rfl,eb,rfl⟩
theorem Ga.k {H:Hp} {a:Addr} {aZ:List (Key×V)} {k:Key} {v:V} (e:H a=some (.dK aZ)) (hl:aZ.length < sizeLine):Ga H a (kV k) v (upd H a (.dK (putK aZ k v))):=.inl ⟨aZ,k,e,rfl,hl,rfl⟩
theorem Ga.t {H:Hp} {a b:Addr} {aZ:List (List Key×V)} {k:List Key} {v:V} (e:H a=some (.dT aZ)) (eb:H b=some (.tup (k.map kV))) (hl:aZ.length < sizeLine) :
 Ga H a (.ref b) v (upd H a (.dT (putK aZ k v))):=.inr ⟨aZ,k,b,e,rfl,eb,hl,rfl⟩
section
variable {X:Cx} {pins:List (Addr×Obj)} {σ:St} {H:Hp} {s:Shared} {a:Addr} {y v:V} {u r:Value} {o:Option V} {A:Around} {E:Value→Shared→Prop}
theorem Inv.big (I:Inv X pins σ H s):sysModules < s.heap.objs.size:=by
 have h:mainGlobals < s.heap.objs.size:=(I.mod.glob.keeps I.bk).lt
 exact Nat.lt_trans (by decide) h
theorem zI {Q:Value→Shared→Prop} (hu:A.units+1 < cLine) (I:Inv X pins σ H s) (g:oM H a y (some v)) (ry:RelV y u) (h:∀ w' s',Inv X pins σ H s'→RelV v w'→Q w' s') :
  wpAny (model X.prog X.w) A (getItem (.ref a) u) Q E s:=by
 rcases g with ⟨aZ,k,e,ey,l⟩ | ⟨aZ,k,b,e,ey,eb,l⟩
 · subst ey
   obtain ⟨z,hd,vs,rel,dd⟩:=uJ I.bC e
   obtain ⟨w',hw,rw'⟩:=jK.some_of (v:=v) (o:=valueAt vs k) (by rw [l]; exact rel.val k)
   exact wpAny_getItem_of (uI ry) dd.mapOf hw (h w' _ (I.tok _) rw')
 · subst ey
   cases (show u=Value.ref b from ry)
   obtain ⟨z,hd,xs,rel,dd⟩:=yD I.bC e
   obtain ⟨w',hw,rw'⟩:=jK.some_of (v:=v) (o:=(atKey xs k).map (·.2)) (by rw [l]; exact rel.val k)
   obtain ⟨p,hp,Ci⟩:=MX.mp hw
   refine wpAny_getItem_heap (tupleKind_room_in1 hu) (wG I.bC eb) dd hp ?_
   rw [Ci]
   exact h w' _ (I.tok _) rw'
theorem Gb {h':Heap} {t':Nat} {ob:HO} (I:Inv X pins σ H s) (mu:Na (H a)) (hs:Heap.SameBut a s.heap h') (he:∃ q,h'.get? a=some q) (new:bM X.prog X.w (upd H a ob) h' a ob) :
  Inv X pins σ (upd H a ob) { s with heap:=h',toks:=t' } :=
 I.write (x:=a) (e:=a) mu (.inl rfl) (fun b q hb z=>(hs.2 b hb).trans z) he new
theorem K9 {P:Program} {w:World} {H':Hp} {h':Heap} {aZ:List (Key×V)} {vs:List (Key×Value)} (z:aZ.length≤sizeLine) (hd:(a == sysModules)=false) (rel:KV aZ vs) (dd:h'.DictOf (bB P w) a vs) :
 bM P w H' h' a (.dK aZ):=⟨z,hd,vs,rel,dd⟩
end
section
variable {X:Cx} {pins:List (Addr×Obj)} {σ:St} {H:Hp} {s:Shared} {a:Addr} {aZ:List (Key×V)} {k:Key} {u:Value} {A:Around} {E:Value→Shared→Prop}
end
def K_ (i:Expr):Prop:=∀ ov iv,subscripted i false ov iv=operate [ov,iv] (getItem ov iv)
theorem Ge {prog:Program} {w:World} {A:Around} {E:Value→Shared→Prop} {s:Shared} {env:Env} {value slice:Expr} {pos:Pos} {T id:String} {Q:Value→Shared→Prop}
  (hl:typeLookup (.type T) "__getitem__" = pure (some (.builtin id))) (hs:K_ slice)
  (h:wpAny (model prog w) A (eval value env) (fun o s₁=>wpAny (model prog w) A (eval slice env) (fun i s₂=>s₂.TypeIs o T∧wpAny (model prog w) A (getItem o i) Q E s₂) E s₁) E s) :
  wpAny (model prog w) A (eval (.Subscript value slice pos) env) Q E s:=by
 refine Subscript_ (wpAny_mono h (fun o s₁ h₁=>wpAny_mono h₁ (fun i s₂ h₂=>?_) fun _ _ x=>x) fun _ _ x=>x)
 obtain ⟨hT,h₂⟩:=h₂
 unfold subscriptTail
 refine wpAny_bind ?_
 rw [getitemInPython_of_ne hT.not_modules]
 refine wpAny_bind (wpAny_specialOf hT hl ?_)
 have fin:wpAny (model prog w) A (subscripted slice false o i) (fun r s₃=>wpAny (model prog w) A (letTemporaryGo value o r >>= fun _=>pure r) Q E s₃) E s₂:=by
  rw [hs o i]
  exact wpAny_operating (wpAny_mono h₂ (fun r s₃ h₃=>wpAny_bind (wpAny_letTemporaryGo (wpAny_pure h₃))) fun _ _ x=>x)
 first
  | exact wpAny_pure (wpAny_bind fin)
  | exact wpAny_bind (wpAny_pure (wpAny_bind fin))
  | exact wpAny_bind fin
theorem uK {X:Cx} {pins:List (Addr×Obj)} {σ:St} {H:Hp} {s:Shared} {a:Addr} {y:V} {o:Option V} (I:Inv X pins σ H s) (g:oM H a y o):s.TypeIs (.ref a) "dict":=by
 rcases g with ⟨aZ,k,e,_,_⟩ | ⟨aZ,k,b,e,_,_,_⟩
 · obtain ⟨_,_,vs,_,dd⟩:=uJ I.bC e
   exact dd.typeIs
 · obtain ⟨_,_,xs,_,dd⟩:=yD I.bC e
   exact dd.typeIs
def OM (td ty:TE):TE:=fun σ H Q=>td σ H fun x H1=>ty σ H1 fun y H2=>∃ a v,x = .ref a∧oM H2 a y (some v)∧Q v H2
section
variable {X:Cx} {o i e value:Expr} {pos pos' qd:Pos} {td ty tv:TE}
theorem Gf (hu:X.A.units+1 < cLine) (ho:PE X o td) (hi:PE X i ty) (hs:K_ i):PE X (.Subscript o i pos) (OM td ty):=by
 intro pins s σ H Q I h
 refine Ge PySem.F.slot_dict_getitem.lookup hs (bT (ho pins s σ H _ I h) fun u s1 ⟨x,H1,I1,rx,q1⟩=>bT (hi pins s1 σ H1 _ I1 q1) fun iv s2 ⟨y,H2,I2,ry,a,v,ex,g,q2⟩=>?_)
 subst ex
 obtain rfl:u=Value.ref a:=rx
 exact ⟨uK I2 g,zI hu I2 g ry fun w' s3 I3 rw'=>⟨v,H2,I3,rw',q2⟩⟩
end
theorem Cs {P:Program} {w:World} {H:Hp} (h:Heap) (hb:sysModules < h.objs.size):bM P w H (h.push { cls:=.type "dict",data:=.dict #[] }) h.objs.size (.dK []) :=
 ⟨kd _,beq_eq_false_iff_ne.mpr (Ne.symm (gF hb)),[],.nil,Heap.DictOf.new h⟩
def K':TE:=fun _ H Q=>∀ p,H p=none→Q (.ref p) (upd H p (.dK []))
section
variable {X:Cx} {pos:Pos}
theorem Ct:PE X (.Dict [] [] pos) K':=fun pins s σ H Q I h =>
 wpAny_Dict_empty ⟨.ref s.heap.objs.size,_,I.laid (a:=s.heap.objs.size) (o:=.dK []) (t':=s.toks) (fun _ _ q=>cY _ q) (du _) (Cs s.heap I.big),rfl,h _ (I.bC.fresh (du _))⟩
end
abbrev VV:List (V×V)→List (Value×Value)→Prop:=Paired fun p q=>RelV p.1 q.1∧RelV p.2 q.2
structure M1 (X:Cx) (o:Expr) (m:Str) (apos:Pos) (e:Expr) (bf:Pos):Prop where
 base:attributeBase o m X.env (eval o X.env)=eval o X.env
 TZ:((backTo bf (starEach [e] X.env)).all (fun x=>!x.1) && (backToKw bf (keywordEach [] X.env)).all (fun x=>x.1.isSome)
  && decide (([e]:List Expr).length+([]:List Keyword).length+(if ([]:List Keyword).isEmpty then 0 else 1) < 30))=true
 line:(apos.endLine == bf.line)=true
 trees:backTo bf (starEach [e] X.env)=[(false,eval e X.env)]
structure M2 (X:Cx) (o:Expr) (m:Str) (apos:Pos) (e f:Expr) (bf:Pos):Prop where
 base:attributeBase o m X.env (eval o X.env)=eval o X.env
 TZ:((backTo bf (starEach [e,f] X.env)).all (fun x=>!x.1) && (backToKw bf (keywordEach [] X.env)).all (fun x=>x.1.isSome)
  && decide (([e,f]:List Expr).length+([]:List Keyword).length+(if ([]:List Keyword).isEmpty then 0 else 1) < 30))=true
 line:(apos.endLine == bf.line)=true
 trees:backTo bf (starEach [e,f] X.env)=[(false,eval e X.env),(false,eval f X.env)]
def VU (H:Hp) (a:Addr):Prop:=(∃ aZ,Rd H a (.dK aZ))∨∃ aZ,Rd H a (.dT aZ)
theorem La {X:Cx} {pins:List (Addr×Obj)} {σ:St} {H:Hp} {s:Shared} {a:Addr} (I:Inv X pins σ H s) (d:VU H a) :
  s.TypeIs (.ref a) "dict"∧(∀ b,Value.ref a = .ref b→∃ ob,s.heap.get? b=some ob∧ob.dict=none)∧(a == sysModules)=false:=by
 rcases d with ⟨aZ,e⟩ | ⟨aZ,e⟩
 · obtain ⟨_,hd,vs,_,dd⟩:=uJ I.bC e
   refine ⟨dd.typeIs,fun b q=>?_,hd⟩
   cases q
   obtain ⟨ob,_,_,h1,h2,_⟩:=dd
   exact ⟨ob,h1,h2.2.1⟩
 · obtain ⟨_,hd,xs,_,dd⟩:=yD I.bC e
   refine ⟨dd.typeIs,fun b q=>?_,hd⟩
   cases q
   obtain ⟨ob,_,_,h1,h2,_⟩:=dd
   exact ⟨ob,h1,h2.2.1⟩
section
variable {X:Cx} {pins:List (Addr×Obj)} {σ:St} {H:Hp} {s:Shared} {a:Addr} {y d:V} {u r:Value} {o:Option V} {A:Around} {E:Value→Shared→Prop}
theorem Lb {Q:Value→Shared→Prop} (hu:A.units+1 < cLine) (I:Inv X pins σ H s) (g:oM H a y o) (ry:RelV y u) (h:∀ w' s',Inv X pins σ H s'→RelV (o.getD .bh) w'→Q w' s') :
  wpAny (model X.prog X.w) A (call (.builtin "dict.get") [.ref a,u]) Q E s:=by
 rcases g with ⟨aZ,k,e,ey,l⟩ | ⟨aZ,k,b,e,ey,eb,l⟩
 · subst ey
   obtain ⟨z,hd,vs,rel,dd⟩:=uJ I.bC e
   refine call_meetsIn M5 dd.typeIs RJ (RG _ _) (meets_dict_get (bB X.prog X.w) a (uI ry) hd) ⟨_,dd.mapOf,h _ _ (I.tok _) ?_⟩
   rw [l]
   exact (rel.val k).getD rfl
 · subst ey
   cases (show u=Value.ref b from ry)
   obtain ⟨z,hd,xs,rel,dd⟩:=yD I.bC e
   refine call_meetsIn M5 dd.typeIs RJ (RG _ _) (meetsH_dict_get (tupleKind (bB X.prog X.w)) a b hd) ⟨tupleKind_room_in1 hu,k,xs,wG I.bC eb,dd,h _ _ (I.tok _) ?_⟩
   rw [l]
   exact (rel.val k).getD rfl
end
def Lc (td ty:TE):TE:=fun σ H Q=>td σ H fun x H1=>∃ a,x = .ref a∧VU H1 a∧ty σ H1 fun y H2=>∃ o,oM H2 a y o∧Q (o.getD .bh) H2
section
variable {X:Cx} {o e f:Expr} {apos bf:Pos} {td ty tx:TE}
theorem Cu (hu:X.A.units+1 < cLine) (ho:PE X o td) (he:PE X e ty) (m:M1 X o "get" apos e bf):PE X (.Call (.Attribute o "get" apos) [e] [] bf) (Lc td ty):=by
 intro pins s σ H Q I h
 refine wpAny_Call_method m.base m.TZ m.line RH M5 PySem.F.type_dict_get (bT (ho pins s σ H _ I h) fun u s1 ⟨x,H1,I1,rx,a,ex,d,q1⟩=>?_)
 subst ex
 obtain rfl:u=Value.ref a:=rx
 obtain ⟨t1,t2,_⟩:=La I1 d
 refine ⟨t1,t2,?_⟩
 rw [m.trees]
 refine QD rfl (Calls.evalArgs_plain (Calls.spliced_cons (bT (he pins s1 σ H1 _ I1 q1) fun iv s2 ⟨y,H2,I2,ry,ov,g,q2⟩=>Calls.spliced_nil ?_)))
 exact Lb hu I2 g ry fun w' s3 I3 rw'=>⟨_,H2,I3,rw',q2⟩
end
section
variable {X:Cx} {pins:List (Addr×Obj)} {σ:St} {H:Hp} {s:Shared} {a:Addr} {aZ:List (Key×V)} {A:Around} {E:Value→Shared→Prop}
end
section
variable {X:Cx} {pins:List (Addr×Obj)} {σ:St} {H:Hp} {s:Shared} {a:Addr} {y:V} {u:Value} {A:Around} {E:Value→Shared→Prop}
end
end L2
namespace QT
open PySem PySem.W PySem.Calls PyProof.Rows
section
variable {prog:Program} {w:World} {A:Around} {E:Value→Shared→Prop} {s:Shared} {K:Frag}
end
end QT
namespace L2
open PySem PySem.Spec PyProof.Rows
section
variable {P:Program} {w:World} {K:PySem.W.Frag} {mg:Str→Option Value} {base:Heap}
end
section
variable {X:Cx}
end
section
variable {κ:Type} [DecidableEq κ]
end
end L2
namespace VT
open PySem PySem.Spec PyProof.Rows L2
def zJ:T→Option Key
 | .int i=>some (.inl i)
 | .str x=>some (.inr x)
 | _=>none
theorem sL {K:PySem.W.Frag} {H:Hp} {A:List Addr} {t:T} {v:V} {k:Key} (h:gD K H A t v) (e:zJ t=some k):v=kV k:=by
 cases t with
 | int i=>cases e; exact h.int
 | str x=>cases e; exact h.str
 | _=>cases e
def fQ {α:Type}:List Key→List α→Key→Option α
 | k :: ks,t :: ts,x=>if k=x then some t else fQ ks ts x
 | _,_,_=>none
theorem eV:∀ (ks:List Key) (vs:List V) (x:Key),iB (ks.zip vs) x=fQ ks vs x
 | [],vs,x=>rfl
 | k :: ks,[],x=>rfl
 | k :: ks,v :: vs,x=>by
   simp only [fQ,List.zip_cons_cons]
   by_cases e:k=x
   · rw [if_pos e,kD (p:=(k,v)) e]
   · rw [if_neg e,kE (p:=(k,v)) e]; exact eV ks vs x
theorem uL {α:Type} (ts:List α) (x:Key):fQ [] ts x=none:=by cases ts <;> rfl
theorem gP {K:PySem.W.Frag} {H:Hp} {A:List Addr}:∀ {ks:List Key} {ts:List T} {vs:List V} {x:Key},aG K H A ts vs→(∀ t,fQ ks ts x=some t→∃ v,fQ ks vs x=some v∧At K H A t v)∧(fQ ks ts x=none→fQ ks vs x=none)
 | [],ts,vs,x,h=>by
   rw [uL,uL]
   refine ⟨fun t e=>?_,fun _=>rfl⟩
   cases e
 | k :: ks,[],vs,x,h=>by
   simp only [aG] at h
   subst h
   exact ⟨fun t e=>(by cases e),fun _=>rfl⟩
 | k :: ks,t :: ts,vs,x,h=>by
   simp only [aG] at h
   obtain ⟨v,r,rfl,h1,h2⟩:=h
   simp only [fQ]
   by_cases e:k=x
   · rw [if_pos e,if_pos e]
     exact ⟨fun t e=>by cases e; exact ⟨v,rfl,h1⟩,fun q=>by cases q⟩
   · rw [if_neg e,if_neg e]
     exact gP h2
section
variable {X:Cx} {Z:Zc} {e a b:Expr} {fa fb fc:FE} {pos:Pos}
def ON:FP:=fun _ Q=>Q (.fr (.dk [] []))
theorem Gg:VP X Z (.Dict [] [] pos) ON:=.mk fun tm=>PE.weak Ct fun σ H Q ⟨ρ,O,q,I,hf,k⟩ p hp =>
 k _ hf _ _ (aS hp) (I.newD (ks:=[]) (ts:=[]) (vs:=[]) hp rfl aG.nil)
def OP (fa fb:FE):FP:=fun ρ Q=>fa ρ fun x=>fb ρ fun y=>match x,zJ y with
 | .dk ks ts,some k=>∃ t,fQ ks ts k=some t∧Q (.vw t)
 | _,_=>False
theorem Cv (hu:X.A.units+1 < cLine) (ha:VR X Z a fa) (hb:VR X Z b fb) (hs:K_ b:=by intro _ _; rfl):VP X Z (.Subscript a b pos) (OP fa fb):=.mk fun tm=>PE.weak (Gf hu (ha tm) (hb tm) hs) fun σ H Q ⟨ρ,O,q,I,hf,k⟩ =>
 ⟨ρ,O,_,I,hf,fun x hx v H1 s1 a1=>⟨ρ,O,_,I.same s1,hx,fun y hy w H2 s2 a2=>by
   split at hy
   · rename_i ks ts kk e
     obtain ⟨t,e1,hq⟩:=hy
     obtain ⟨l,vs,rfl,hl,hd,hv⟩:=(a1.same s2).dk
     obtain ⟨u,e2,e3⟩:=(gP hv).1 t e1
     rw [sL a2 e]
     exact ⟨l,u,rfl,by rw [← e2,← eV]; exact oM.k hd,k _ hq _ H2 (s1.trans s2) ⟨(I.same s1).same s2,e3⟩⟩
   · exact hy.elim⟩⟩
def T1 (fa fb:FE):FP:=fun ρ Q=>fa ρ fun x=>match x with
 | .dk ks ts=>fb ρ fun y=>match zJ y with
   | some k=>Q (.vw ((fQ ks ts k).getD .bh))
   | none=>False
 | _=>False
theorem yE {K:PySem.W.Frag} {H:Hp} {A:List Addr} {ks:List Key} {ts:List T} {vs:List V} {k:Key} {z:T} {w:V} (h:aG K H A ts vs) (hz:At K H A z w):At K H A ((fQ ks ts k).getD z) ((fQ ks vs k).getD w):=by
 cases e:fQ ks ts k with
 | none=>rw [(gP h).2 e]; exact hz
 | some t=>obtain ⟨v,e1,e2⟩:=(gP h).1 t e; rw [e1]; exact e2
theorem Cw {apos bf:Pos} (hu:X.A.units+1 < cLine) (ha:VR X Z a fa) (hb:VR X Z b fb) (m:M1 X a "get" apos b bf):VP X Z (.Call (.Attribute a "get" apos) [b] [] bf) (T1 fa fb):=.mk fun tm=>PE.weak (Cu hu (ha tm) (hb tm) m) fun σ H Q ⟨ρ,O,q,I,hf,k⟩ =>
 ⟨ρ,O,_,I,hf,fun x hx v H1 s1 a1=>by
   split at hx
   · rename_i ks ts
     obtain ⟨l,vs,rfl,hl,hd,hv⟩:=a1.dk
     refine ⟨l,rfl,.inl ⟨_,.inl hd⟩,ρ,O,_,I.same s1,hx,fun y hy w H2 s2 a2=>?_⟩
     split at hy
     · rename_i kk e
       rw [sL a2 e]
       refine ⟨_,oM.k (s2 _ _ hd),?_⟩
       rw [eV]
       exact k _ hy _ H2 (s1.trans s2) ⟨(I.same s1).same s2,yE (hv.same s2) lp⟩
     · exact hy.elim
   · exact hx.elim⟩
end
def Ij (w:World) (K:PySem.W.Frag) (e:DictEntry) (p:Str×T):Prop:=e.hash=PyData.keyHash w.params p.1∧(∃ t,e.key = .str p.1 t)∧∃ v,RelV v e.val∧∀ H A,At K H A p.2 v
def yF (w:World) (K:PySem.W.Frag) (a:Addr) (l:List (Str×T)):Prop:=∃ es ep,K.lookup a=some ⟨.type "dict",none,.dict es ep,#[]⟩∧(a == sysModules)=false∧Paired (Ij w K) es.toList l∧(l.map (·.1)).Nodup
theorem ents {P:Program} {w:World} {K:PySem.W.Frag}:∀ {es:List DictEntry} {l:List (Str×T)},Paired (Ij w K) es l →
  ∃ (vs:List V) (us:List (Key×Value)),(∀ H A,aG K H A (l.map (·.2)) vs)∧KV ((l.map fun p=>(Sum.inr p.1:Key)).zip vs) us∧PySem.Pairs (bB P w) es us∧us.map (·.1)=l.map (fun p=>(Sum.inr p.1:Key))∧∀ e∈es,∃ k,(bB P w).is k e.key=true∧e.hash=(bB P w).hash k
 | _,_,.nil=>⟨[],[],fun _ _=>aG.nil,.nil,.nil,rfl,fun _ h=>nomatch h⟩
 | _,_,.cons (a:=e) (b:=p) r t=>by
   obtain ⟨vs,us,h1,h2,h3,h4,h5⟩:=ents (P:=P) t
   obtain ⟨r1,⟨tk,r2⟩,v,r3,r4⟩:=r
   have hk:(bB P w).is (Sum.inr p.1) e.key=true:=by
    rw [r2]
    show Value.isStrOf p.1 (.str p.1 tk)=true
    simp [Value.isStrOf]
   refine ⟨v :: vs,(Sum.inr p.1,e.val) :: us,fun H A=>aG.cons (r4 H A) (h1 H A),.cons ⟨rfl,r3⟩ h2,.cons hk rfl h3,by rw [jr,jr,h4],fun e' he=>?_⟩
   rcases dS.mp he with q | q
   · subst q
     exact ⟨Sum.inr p.1,hk,r1⟩
   · exact h5 e' q
theorem yF.of {X:Cx} {pins:List (Addr×Obj)} {σ:St} {H:Hp} {s:Shared} {a:Addr} {l:List (Str×T)} (I:Inv X pins σ H s) (d:yF X.w X.K a l) :
  ∃ (vs:List V) (us:List (Key×Value)),(∀ H A,aG X.K H A (l.map (·.2)) vs)∧KV ((l.map fun p=>(Sum.inr p.1:Key)).zip vs) us∧s.heap.DictOf (bB X.prog X.w) a us∧(a == sysModules)=false:=by
 obtain ⟨es,ep,lk,hs,hp,nd⟩:=d
 obtain ⟨vs,us,h1,h2,h3,h4,h5⟩:=ents (P:=X.prog) hp
 refine ⟨vs,us,h1,h2,⟨_,es,ep,I.la a _ lk,⟨rfl,rfl,rfl⟩,rfl,fun e he=>h5 e (by simpa using he),h3,?_⟩,hs⟩
 rw [h4]
 have e:(l.map fun p=>(Sum.inr p.1:Key))=(l.map (·.1)).map Sum.inr:=by rw [List.map_map]; rfl
 rw [e]
 exact List.Pairwise.map _ (fun a b h z=>h (Sum.inr.inj z)) nd
section
variable {X:Cx} {Z:Zc} {e c:Expr} {fe fc:FE} {x:Str} {p apos bf:Pos} {a:Addr} {l:List (Str×T)}
def Gh (l:List (Str×T)) (k:Str):Option T:=fQ (l.map fun p=>(Sum.inr p.1:Key)) (l.map (·.2)) (Sum.inr k)
def onStr (t:T) (f:Str→Prop):Prop:=match t with
 | .str k=>f k
 | _=>False
theorem Cy {t:T} {f:Str→Prop} (h:onStr t f):∃ k,t = .str k∧f k:=by
 unfold onStr at h
 split at h
 · exact ⟨_,rfl,h⟩
 · exact h.elim
def T3 (l:List (Str×T)) (fe:FE):FP:=fun ρ Q=>fe ρ fun y=>onStr y fun k=>Q (.vw ((Gh l k).getD .bh))
theorem Cz (hg:Gl X x) (hm:X.mg x=some (.ref a)) (d:yF X.w X.K a l) (he:VR X Z e fe) (m:M1 X (.Name x p) "get" apos e bf) (hd:gg x:=by decide) :
  VP X Z (.Call (.Attribute (.Name x p) "get" apos) [e] [] bf) (T3 l fe):=.mk fun tm pins s σ H Q I ⟨ρ,O,q,E,hf,k⟩=>by
 refine wpAny_Call_method m.base m.TZ m.line RH M5 PySem.F.type_dict_get (bT (rS hg hm (v:=.ref a) rfl hd pins s σ H (fun v H'=>v = .ref a∧H'=H) I ⟨rfl,rfl⟩) fun u s1 ⟨x',H1,I1,rx,ex,eH⟩=>?_)
 subst ex eH
 obtain rfl:u=Value.ref a:=rx
 obtain ⟨vs,us,h1,h2,dd,hs⟩:=d.of I1
 refine ⟨dd.typeIs,fun b q=>?_,?_⟩
 · cases q
   obtain ⟨ob,_,_,z1,z2,_⟩:=dd
   exact ⟨ob,z1,z2.2.1⟩
 rw [m.trees]
 refine QD rfl (Calls.evalArgs_plain (Calls.spliced_cons (bT (he tm pins s1 σ H1 (fun y H2=>∃ t,gD X.K H2 (av Z O) t y∧aJ H1 H2∧onStr t fun k=>q (.vw ((Gh l k).getD .bh))) I1 ⟨ρ,O,_,E,hf,fun t ht v H' s a1=>⟨t,a1,s,ht⟩⟩) fun iv s2 ⟨y,H2,I2,ry,t,a1,sa,q3⟩=>Calls.spliced_nil ?_)))
 obtain ⟨kk,et,q3⟩:=Cy q3
 subst et
 obtain ⟨j',Ra,KL,B7,Ik,Q5⟩:=d.of I2
 have ey:=a1.str
 subst ey
 refine call_meetsIn M5 Ik.typeIs RJ (RG _ _) (meets_dict_get (bB X.prog X.w) a (uI (k:=Sum.inr kk) ry) Q5) ⟨_,Ik.mapOf,⟨_,H2,I2.tok _,(B7.val (Sum.inr kk)).getD (d:=.bh) rfl,?_⟩⟩
 rw [eV]
 exact k _ q3 _ H2 sa ⟨E.same sa,yE (KL H2 (av Z O)) lp⟩
end
end VT
namespace Gen
open PySem L2 VT
open ym (bw)
theorem small {n:Nat} (h:n≤1000):n≤sizeLine:=Nat.le_of_lt (zm h)
def gk (n:Int):Nat:=bw.cps.toList.getD (n % 26).toNat 0
theorem uM:bw.cps.toList.length=26:=by decide +kernel
theorem sM:bw.length=26:=by decide +kernel
theorem fR:bw.length≤sizeLine:=by rw [sM,sizeLine_eq]; decide
theorem rn (n:Int):ju bw.cps.toList (n % 26)=some (gk n):=by
 have h0:0≤n % 26:=k_ n (by decide)
 have h1:n % 26 < 26:=mB n (by decide)
 unfold gk
 obtain ⟨j,hj⟩:=Ef h0
 rw [hj]
 have fN:j < bw.cps.toList.length:=by rw [uM]; omega
 refine au ?_
 rw [Eg,List.getD,j_ fN]
 rfl
def qz (c:Int):Int:=c % 1000000000000
def jx (c:Int):Nat:=(1+qz c % 7).toNat
def zK (c:Int):Nat:=(qz c / 7 % (jx c:Int)).toNat
def sN (c:Int) (k j:Nat):Int:=qz c / 49 / ((j:Int)+1)+(j:Int) * (j:Int)+(if j=zK c then (k:Int) else 0)
def bN (c:Int) (k n:Nat):Str:=⟨((List.range n).map fun j=>gk (sN c k j)).toArray⟩
def cH (c:Int) (m:Nat):List Str :=
 if qz c / 49 % 3=1 then ((List.range m).map fun k=>bN c k (jx c)).set 1 (bN c 0 (jx c) ++ ⟨#[gk (qz c / 147)]⟩) else (List.range m).map fun k=>bN c k (jx c)
theorem Il (c:Int):((jx c:Nat):Int)=1+qz c % 7:=by
 unfold jx
 have:0≤qz c % 7:=k_ _ (by decide)
 omega
theorem oN (c:Int):1≤jx c∧jx c≤7:=by
 have:=Il c
 have h0:0≤qz c % 7:=k_ _ (by decide)
 have h1:qz c % 7 < 7:=mB _ (by decide)
 omega
theorem Im (c:Int):((zK c:Nat):Int)=qz c / 7 % (jx c:Int):=by
 unfold zK
 have h:=oN c
 have:0≤qz c / 7 % (jx c:Int):=k_ _ (by omega)
 omega
theorem OQ (c:Int):zK c < jx c:=by
 have h:=oN c
 have h1:=Im c
 have:qz c / 7 % (jx c:Int) < jx c:=mB _ (by omega)
 omega
theorem wH (c:Int) (k n:Nat):bN c k (n+1)=bN c k n ++ ⟨#[gk (sN c k n)]⟩:=by
 unfold bN
 rw [List.range_succ,pX]
 show _=Str.mk (_ ++ _)
 congr 1
 simp
theorem eF (c:Int) (k n:Nat):(bN c k n).length=n:=by
 unfold bN Str.length
 simp
theorem wI (c:Int) (m:Nat):(cH c m).length=m:=by
 unfold cH
 split <;> simp
theorem OR:(10:Int) ^ (12:Int).toNat=1000000000000:=by decide +kernel
inductive nG where
 | nm (x:Str)
 | nu (i:Int)
inductive Ky where
 | fld (x:Str)
 | op (o:nG)
inductive Rw where
 | df (f:Str) (ps:List Str)
 | give (a:nG)
 | put (x:Str) (a:nG)
 | Gi (x:Str) (a:nG) (op:Str) (b:nG)
 | new (x:Str)
 | get (x r:Str) (k:Ky)
 | set (r:Str) (k:Ky) (a:nG)
 | call (x f:Str) (as:List nG)
 | fail (w:Str)
 | Ld (a:nG)
 | OS
 | Ew (a:nG)
 | fin
 | skip
def lL:nG→T
 | .nm x=>.str x
 | .nu i=>.int i
def CA:Ky→T
 | .fld x=>.str ((("." : String):Str) ++ x)
 | .op o=>lL o
def ax:Rw→T
 | .df f ps=>.tup [.str "def",.str f,.tup (ps.map .str)]
 | .give a=>.tup [.str "give",lL a]
 | .put x a=>.tup [.str "put",.str x,lL a]
 | .Gi x a op b=>.tup [.str "do",.str x,lL a,.str op,lL b]
 | .new x=>.tup [.str "new",.str x]
 | .get x r k=>.tup [.str "get",.str x,.str r,CA k]
 | .set r k a=>.tup [.str "set",.str r,CA k,lL a]
 | .call x f as=>.tup [.str "call",.str x,.str f,.tup (as.map lL)]
 | .fail w=>.tup [.str "fail",.str w]
 | .Ld a=>.tup [.str "if",lL a]
 | .OS=>.tup [.str "else"]
 | .Ew a=>.tup [.str "while",lL a]
 | .fin=>.tup [.str "end"]
 | .skip=>.tup [.str "skip"]
def cK (ys:List Str):nG→Prop
 | .nm x=>x∈ys
 | .nu i=>-1000000000000000000000000000000≤i∧i < 1000000000000000000000000000000
def zL (ys:List Str):Ky→Prop
 | .fld x=>x∈ys
 | .op o=>cK ys o
abbrev Plan:=List (Str×List Str)
def reckon:List Str:=["plus","minus","times","over","rest","less","same"]
def kF (ys:List Str) (later:Plan):Rw→Prop
 | .put x a=>x∈ys∧cK ys a
 | .Gi x a op b=>x∈ys∧cK ys a∧op∈reckon∧cK ys b
 | .new x=>x∈ys
 | .get x r k=>x∈ys∧r∈ys∧zL ys k
 | .set r k a=>r∈ys∧zL ys k∧cK ys a
 | .call x f as=>x∈ys∧(∃ ps,(f,ps)∈later∧as.length=ps.length)∧∀ a∈as,cK ys a
 | .fail w=>w∈ys
 | .skip=>True
 | _=>False
def bj (p:Str×List Str):T:=.tup [.str p.1,.tup (p.2.map .str)]
theorem kG {ys:List Str} (hl:ys.length=6) {n:Int} {m:Nat} (hm:0 < m) (Zp:m≤6):∃ y∈ys,ju (ys.map T.str) (n % (m:Int))=some (T.str y):=by
 have h0:0≤n % (m:Int):=k_ n (by omega)
 have h1:n % (m:Int) < m:=mB n (by omega)
 obtain ⟨j,hj⟩:=Ef h0
 have fN:j < ys.length:=by omega
 refine ⟨ys[j],A9 fN,?_⟩
 rw [hj]
 refine au ?_
 rw [k9,j_ fN]
 rfl
theorem OT:(10:Int) ^ (30:Int).toNat=1000000000000000000000000000000:=by decide +kernel
theorem OU:(10:Int) ^ (9:Int).toNat=1000000000:=by decide +kernel
theorem OW:(10:Int) ^ (6:Int).toNat=1000000:=by decide +kernel
theorem T4:((("." : String):Str)).length=1:=by decide +kernel
theorem il (i:Int):∃ op∈reckon,ju [T.str "plus",T.str "minus",T.str "times",T.str "over",T.str "rest",T.str "less",T.str "same"] (i % 7)=some (T.str op):=by
 have h0:0≤i % 7:=k_ i (by decide)
 have h1:i % 7 < 7:=mB i (by decide)
 obtain ⟨j,hj⟩:=Ef h0
 rw [hj] at h1 ⊢
 have:j=0∨j=1∨j=2∨j=3∨j=4∨j=5∨j=6:=by omega
 rcases this with rfl | rfl | rfl | rfl | rfl | rfl | rfl
 · exact ⟨"plus",by simp [reckon],au rfl⟩
 · exact ⟨"minus",by simp [reckon],au rfl⟩
 · exact ⟨"times",by simp [reckon],au rfl⟩
 · exact ⟨"over",by simp [reckon],au rfl⟩
 · exact ⟨"rest",by simp [reckon],au rfl⟩
 · exact ⟨"less",by simp [reckon],au rfl⟩
 · exact ⟨"same",by simp [reckon],au rfl⟩
theorem Le {ys:List Str} (hl:ys.length=6) (n:Int):∃ y∈ys,ju (ys.map T.str) (4+n % 2)=some (T.str y):=by
 have h0:0≤n % 2:=k_ n (by decide)
 have h1:n % 2 < 2:=mB n (by decide)
 obtain ⟨j,hj⟩:=Ef h0
 have fN:4+j < ys.length:=by omega
 refine ⟨ys[4+j],A9 fN,?_⟩
 rw [hj]
 have e:(4:Int)+(j:Int)=((4+j:Nat):Int):=by omega
 rw [e]
 refine au ?_
 rw [k9,j_ fN]
 rfl
def oO (ys:List Str) (pl:Plan) (cp:List Str) (new:List Rw) (eD:List Str):Prop :=
 (∃ o,cK ys o∧new=[.Ld o]∧eD=cp ++ ([("if" : Str)]:List Str))∨(∃ o,cK ys o∧new=[.Ew o]∧eD=cp ++ ([("while" : Str)]:List Str)) ∨
 (∃ y,y∈ys∧new=[.Ew (.nm y),.Gi y (.nm y) "minus" (.nu 1)]∧eD=cp ++ ([("while" : Str)]:List Str))∨(∃ s0,cp=s0 ++ ([("if" : Str)]:List Str)∧new=[.OS]∧eD=s0 ++ ([("else" : Str)]:List Str)) ∨
 (∃ s0 x,cp=s0 ++ [x]∧new=[.fin]∧eD=s0)∨(∃ r,kF ys pl r∧new=[r]∧eD=cp)
theorem Gj {ys:List Str} {pl:Plan} {cp new eD} (h:oO ys pl cp new eD):new.length+eD.length≤cp.length+3:=by
 rcases h with ⟨o,_,rfl,rfl⟩ | ⟨o,_,rfl,rfl⟩ | ⟨y,_,rfl,rfl⟩ | ⟨s0,rfl,rfl,rfl⟩ | ⟨s0,x,rfl,rfl,rfl⟩ | ⟨r,_,rfl,rfl⟩ <;> simp <;> omega
def sO (ys:List Str) (pl:Plan):Prop:=∀ (k:Nat) f ps,pl[k]?=some (f,ps)→ys[k]?=some f∧∃ (a:Int) (r:Nat),r≤2∧ps=(List.range r).map fun j=>ys.getD ((a+((j:Nat):Int)) % 4).toNat Str.empty
theorem CB {ys:List Str} (hl:ys.length=6) (n:Int):ju (ys.map T.str) (n % 4)=some (T.str (ys.getD (n % 4).toNat Str.empty)):=by
 have h0:0≤n % 4:=k_ n (by decide)
 have h1:n % 4 < 4:=mB n (by decide)
 obtain ⟨j,hj⟩:=Ef h0
 have fN:j < ys.length:=by omega
 rw [hj]
 refine au ?_
 rw [k9,Eg,List.getD,j_ fN]
 rfl
inductive Body (ys:List Str) (later:Plan):List Str→List Rw→Prop
 | nil:Body ys later [] []
 | step {cp eD:List Str} {body new:List Rw}:Body ys later cp body→oO ys later cp new eD→Body ys later eD (body ++ new)
inductive Pre (ys:List Str) (pl:Plan):Nat→List Rw→Prop
 | zero:Pre ys pl 0 []
 | succ {k:Nat} {rs:List Rw} {f:Str} {ps:List Str} {cp:List Str} {body:List Rw} {o:nG} {sk:List Rw}:Pre ys pl k rs→pl[k]?=some (f,ps)→Body ys (pl.drop (k+1)) cp body→cK ys o→(sk=[]∨sk=[.skip]) →
    Pre ys pl (k+1) (rs ++ (.df f ps :: (body ++ (List.replicate cp.length .fin ++ (.give o :: sk)))))
theorem bR {α:Type} {f:α→T} (h:∀ x,plainT (f x)=true):∀ l:List α,bU (l.map f)=true
 | []=>by simp [bU]
 | x :: l=>by simp only [jr,bU,h x,bR h l,Bool.and_self]
theorem cL {α:Type} {f:α→T} {n:Nat} (h:∀ x,dep (f x)≤n):∀ l:List α,nY (l.map f)≤n
 | []=>by simp [nY]
 | x :: l=>by have:=h x; have:=cL h l; simp only [jr,nY]; omega
theorem wJ (p:Str×List Str):plainT (bj p)=true:=by simp [bj,plainT,bU,bR (f:=T.str) (fun _=>by simp [plainT])]
theorem uN (pl:Plan):plainT (.lst (pl.map bj))=true:=by simp only [plainT]; exact bR wJ pl
theorem CC (p:Str×List Str):dep (bj p)≤2:=by
 have:=cL (f:=T.str) (n:=0) (fun _=>by simp [dep]) p.2
 simp only [bj,dep,nY]; omega
theorem zM (pl:Plan):dep (.lst (pl.map bj))≤100:=by have:=cL (f:=bj) (n:=2) CC pl; simp only [dep]; omega
theorem lM (o:nG):plainT (lL o)=true:=by cases o <;> simp [lL,plainT]
theorem zN (o:Ky):plainT (CA o)=true:=by cases o with | fld x=>simp [CA,plainT] | op o=>exact lM o
theorem oP (r:Rw):plainT (ax r)=true:=by
 cases r <;> simp [ax,plainT,bU,lM,zN,bR (f:=T.str) (fun _=>by simp [plainT]),bR (f:=lL) lM]
theorem sP (o:nG):dep (lL o)=0:=by cases o <;> simp [lL,dep]
theorem Gk (o:Ky):dep (CA o)=0:=by cases o with | fld x=>simp [CA,dep] | op o=>exact sP o
theorem uO (r:Rw):dep (ax r)≤2:=by
 have h1:=fun l:List Str=>cL (f:=T.str) (n:=0) (fun _=>by simp [dep]) l
 have h2:=fun l:List nG=>cL (f:=lL) (n:=0) (fun o=>by simp [sP]) l
 cases r <;> simp [ax,dep,nY,sP,Gk] <;> first | (rename_i x; have:=h1 x; omega) | (rename_i x; have:=h2 x; omega) | skip
theorem sQ (o:nG):kr (lL o)=true:=by cases o <;> simp [lL,kr]
theorem Gm (o:Ky):kr (CA o)=true:=by cases o with | fld x=>simp [CA,kr] | op o=>exact sQ o
theorem kH {α:Type} {f:α→T} (h:∀ x,kr (f x)=true):∀ l:List α,sg (l.map f)=true
 | []=>by simp [sg]
 | x :: l=>by simp only [jr,sg,h x,kH h l,Bool.and_self]
theorem CD (r:Rw):kr (ax r)=true:=by
 cases r <;> simp [ax,kr,sg,sQ,Gm,kH (f:=T.str) (fun _=>by simp [kr]),kH (f:=lL) sQ]
end Gen
namespace fH
open PySem L2 VT Gen ym
def top (i:Nat):Stmt:=PySem.Challenge.pw_slicewise_k07_blocks_refused.main.body.getD i (.Pass ⟨0,0,0,0⟩)
abbrev fJ:Stmt:=top 17
abbrev jj:Stmt:=top 18
abbrev gQ:Stmt:=top 19
abbrev jV:Stmt:=top 20
abbrev oQ:Stmt:=top 21
structure Rb (mg:Str→Option Value):Prop where
 H:∃ t,mg "H" = some (.int 1000000000000000000000000000000 t)
 Gn:∃ t,mg "LETTERS" = some (.str bw t)
 sR:∃ t,mg "LONGEST_NAME" = some (.int 8 t)
 isinstance:mg "isinstance" = none
 int:mg "int" = none
 bool:mg "bool" = none
 str:mg "str" = none
 len:mg "len" = none
 all:mg "all" = none
theorem jW {n:Nat} (h:n≤1000):n≤sizeLine:=small h
def kJ:T→Bool
 | .lst _=>false
 | .dk _ _=>false
 | .dt _ _=>false
 | .df _ _ _=>false
 | .dz _ _ _=>false
 | .kt _=>false
 | .ins _ _ _=>false
 | .pin _ _=>false
 | .ob _=>false
 | .ty _=>false
 | _=>true
def OX:T→Bool
 | .int i=>decide (-1000000000000000000000000000000≤i) && decide (i < 1000000000000000000000000000000)
 | _=>false
def dW:T→Bool
 | .str x=>cj x
 | _=>false
def OY (ts:List T) (q:Rt→Prop):Prop:=∃ t,ts=[t]∧kJ t=true∧q (.vw (.bl (OX t)))
def ig (ts:List T) (q:Rt→Prop):Prop:=∃ t,ts=[t]∧kJ t=true∧(∀ x,t = .str x→x.length≤1000)∧q (.vw (.bl (dW t)))
def CF (r:Rt) (A:Prop) (B:Prop):Prop:=match r with
 | .vw (.bl true)=>A
 | .vw (.bl false)=>B
 | _=>False
theorem CG {c d:Bool} {q:Rt→Prop} (h:q (.vw (.bl (c && d)))):CF (.vw (.bl c)) (q (.vw (.bl d))) (q (.vw (.bl false))):=by
 cases c with
 | _=>exact h
theorem oR {c:Bool} {A B:Prop} (h1:c=true→A) (h2:c=false→B):CF (.vw (.bl c)) A B:=by
 cases c with
 | true=>exact h1 rfl
 | false=>exact h2 rfl
theorem yG:∀ l:List Nat,bY (l.map ((fun t:T=>match t with | .str y=>.bl (yy y bw) | _=>.bh) ∘ fun c=>T.str ⟨#[c]⟩))=some (l.map Er)
 | []=>rfl
 | c :: l=>by
   rw [jr,jr]
   show (bY _).map _=_
   rw [yG l]
   rfl
section
variable {P:Program} {w:World} {K:PySem.W.Frag} {mg:Str→Option Value} {base:Heap}
abbrev mn:List Str:=["thing"]
theorem kK:aI mn ["thing"] (aj fJ):=L2.gI
theorem zO {f:Addr} {fd:FuncData} (D:Df K mg "is_number" fJ ["thing"] f fd) (M:Rb mg):bW P w K mg base "is_number" ["thing"] 1 (bS K 1 OY):=by
 refine D.ji (jU D.F kK rfl fun bD A outer s H E Ox hr ts q hG=>?_)
 have nd:=kK.nd
 obtain ⟨tH,mH⟩:=M.H
 have VY:∀ {pos},VP (dB iK P w K mg base mn "is_number" (aj fJ) f bD A outer s H E).ni ⟨H,[],Ox⟩ (.Name "H" pos) (fC (.int 1000000000000000000000000000000)):=ei (by rfl) mH (v:=.int 1000000000000000000000000000000) ⟨tH,rfl⟩ fun _ _=>bE
 refine ⟨_,(ah (aD (VP.vx (lr (eB uB (by rfl) M.isinstance (by rfl) M.int Ib (aa 0)) (lr (Kc (eB rg (by rfl) M.isinstance (by rfl) M.bool Cb (aa 0))) (jP (B' Bz yc (VP.vr (dZ (VP.vr VY))) (aa 0) (VP.vr VY)))))))),fun _=>?_⟩
 obtain ⟨t,rfl,ht,hq⟩:=hG
 cases t with
 | bh=>exact ⟨rfl,hq⟩
 | bl b=>exact ⟨rfl,rfl,hq⟩
 | str x=>exact ⟨rfl,hq⟩
 | tup l=>exact ⟨rfl,hq⟩
 | int i =>
   refine ⟨rfl,rfl,?_⟩
   have fS:q (.vw (.bl (decide (-1000000000000000000000000000000≤i) && decide (i < 1000000000000000000000000000000)))):=hq
   exact CG (c:=decide (-1000000000000000000000000000000≤i)) fS
 | _=>cases ht
abbrev lN:List Str:=["thing"]
theorem oU:aI lN ["thing"] (aj jj):=L2.gI
theorem qA:(lN ++ (["sign"]:List Str)).Nodup:=by decide +kernel
theorem Gp {f:Addr} {fd:FuncData} (D:Df K mg "is_name" jj ["thing"] f fd) (M:Rb mg):bW P w K mg base "is_name" ["thing"] 1 (bS K 1 ig):=by
 refine D.ji (jU D.F oU rfl fun bD A outer s H E Ox hr ts q hG=>?_)
 have nd:=oU.nd
 have np:∀ {i:Nat},aY ⟨H,[],Ox⟩ i:=ka
 obtain ⟨tL,mL⟩:=M.Gn
 obtain ⟨tN,mN⟩:=M.sR
 have oV:∀ {pos},VP (dB iK P w K mg base lN "is_name" (aj jj) f bD A outer s H E).ni ⟨H,[],Ox⟩ (.Name "LONGEST_NAME" pos) (fC (.int 8)):=ei (by rfl) mN (v:=.int 8) ⟨tN,rfl⟩ fun _ _=>bE
 refine ⟨_,(af (aL (VW.vc (iM (c_ (cS (eB ow (by rfl) M.isinstance (by rfl) M.str Cc (aa 0)))) (fO (c_ (uF Bz Bz (VP.vr ag) (VP.vr (aE aA aB (by rfl) M.len gC (ak (aa 0) aw))) (VP.vr oV))))))
    (ah (aD (VP.vx jC)))
    ay)
   (ah (aD (VP.vx (aE (cZ rfl) jh (by rfl) M.all yB (ak (VP.vr (nA (ts:=["sign"]) rfl (by rfl) (ly (aq 0)) (fun _ _ _ _ _ _=>(aW (i:=1) qA rfl (Or.inl rfl) np)) (fun _ _ _ _ _ _=>kz) (fun _ _ _ _ _ _=>(VP.ve (Ia (aa 1) (VP.vr (ei (by rfl) mL (v:=.str bw) ⟨tL,rfl⟩ fun _ _=>bZ))))))) aw)))))),fun _=>?_⟩
 obtain ⟨t,rfl,ht,hx,hq⟩:=hG
 cases t with
 | bh=>exact ⟨rfl,hq⟩
 | bl b=>exact ⟨rfl,hq⟩
 | int x=>exact ⟨rfl,hq⟩
 | tup l=>exact ⟨rfl,hq⟩
 | str x =>
   have hl:=hx x rfl
   have fS:q (.vw (.bl (decide (1≤(x.length:Int)) && (decide ((x.length:Int)≤8) && x.cps.toList.all Er)))):=hq
   refine ⟨rfl,jW hl,oR (c:=decide (1≤(x.length:Int))) (fun h1=>?_) (fun h1=>?_)⟩
   · rw [h1,y9] at fS
     refine BK (fun h2=>?_) (fun h2=>?_)
     · have B7:(!decide ((x.length:Int)≤8))=true:=h2
       have h3:decide ((x.length:Int)≤8)=false:=by simpa using B7
       rw [h3,Hx] at fS
       exact fS
     · have B7:¬ (!decide ((x.length:Int)≤8))=true:=h2
       have h3:decide ((x.length:Int)≤8)=true:=by simpa using B7
       rw [h3,y9] at fS
       refine ⟨rfl,by rw [b_,Mo]; exact jW hl,jf (fun _=>true) (fun t=>match t with | .str y=>.bl (yy y bw) | _=>.bh) (fun t ht k r h=>?_) ?_⟩
       · obtain ⟨c,_,rfl⟩:=y_.mp ht
         exact ⟨_,rfl,h⟩
       · rw [QG.mpr (fun _ _=>rfl),List.map_map]
         refine ⟨x.cps.toList.map Er,yG x.cps.toList,?_⟩
         rw [List.all_map]
         exact fS
   · rw [h1,Hx] at fS
     exact fS
 | _=>cases ht
end
def gR (t:T):Bool:=dW t || OX t
def CH (ts:List T) (q:Rt→Prop):Prop:=∃ t,ts=[t]∧kJ t=true∧(∀ x,t = .str x→x.length≤1000)∧q (.vw (.bl (gR t)))
section
variable {P:Program} {w:World} {K:PySem.W.Frag} {mg:Str→Option Value} {base:Heap}
abbrev sS:List Str:=["thing"]
theorem jD:aI sS ["thing"] (aj gQ):=L2.gI
theorem jX {f:Addr} {fd:FuncData} (D:Df K mg "is_operand" gQ ["thing"] f fd) (c1:bW P w K mg base "is_name" ["thing"] 1 (bS K 1 ig)) (c2:bW P w K mg base "is_number" ["thing"] 1 (bS K 1 OY)):bW P w K mg base "is_operand" ["thing"] 2 (bS K 1 CH):=by
 obtain ⟨lQ,jY,dI,dJ,dM,dN⟩:=c1
 obtain ⟨Io,Gq,uP,uQ,uR,uS⟩:=c2
 refine D.ji (jU D.F jD rfl fun bD A outer s H E Ox hr ts q hG=>?_)
 have nd:=jD.nd
 refine ⟨_,(ah (aD (VP.vx (BS (aM dN (hr.mono (by decide)) (by rfl) dI dJ dM (ae (aq 0) ai)) (jP (aM uS (hr.mono (by decide)) (by rfl) uP uQ uR (ae (aq 0) ai))))))),fun _=>?_⟩
 obtain ⟨t,rfl,ht,hx,hq⟩:=hG
 unfold gR at hq
 refine ⟨rfl,t,rfl,ht,hx,oR (c:=dW t) (fun h=>?_) (fun h=>⟨rfl,t,rfl,ht,?_⟩)⟩
 · rw [h,Bool.true_or] at hq; exact hq
 · rw [h,Bool.false_or] at hq; exact hq
end
end fH
namespace VT
open PySem PySem.Spec PyProof.Rows L2
section
variable {X:Cx} {Z:Zc} {a b:Expr} {fa fb:FE} {pos:Pos}
end
end VT
namespace RV
open PySem PySem.Spec PyProof.Rows
def uT (h:Heap) (it l:Addr) (i:Int):Prop:=∃ o,h.get? it=some o∧o.cls = .type "list_reverseiterator"∧o.data = .fields #[.ref l,.int i 0]
section
variable {prog:Program} {w:World} {A:Around} {E:Value→Shared→Prop} {s:Shared}
theorem uT.typeIs {it l:Addr} {i:Int} (h:uT s.heap it l i):s.TypeIs (.ref it) "list_reverseiterator":=let ⟨o,ho,hc,_⟩:=h; ⟨o,ho,hc⟩
end
theorem uT.at {h h':Heap} {it l:Addr} {i:Int} (x:uT h it l i) (k:∀ o,h.get? it=some o→h'.get? it=some o):uT h' it l i:=let ⟨o,ho,r⟩:=x; ⟨o,k o ho,r⟩
section
variable {prog:Program} {w:World} {A:Around} {s:Shared} {R:Result→Shared→Prop}
variable {I:Addr} {fp wr:List Addr} {G:Array GenState→Array GenState→Prop} {n:Nat} {P:Nat→Value→Prop} {St:Nat→Shared→Prop}
def Ends (prog:Program) (w:World) (A:Around) (I:Addr) (wr:List Addr) (G:Array GenState→Array GenState→Prop) (n:Nat) (St:Nat→Shared→Prop):Prop :=
 ∀ (s:Shared) (Q:Option Value→Shared→Prop) (E:Value→Shared→Prop),St n s→(∀ s',Moved wr G s s'→(∃ o,s'.heap.get? I=some o)→Q none s')→wpAny (model prog w) A (pyNext (.ref I)) Q E s
end
section
variable {prog:Program} {w:World} {A:Around} {E:Value→Shared→Prop} {s:Shared}
variable {I:Addr} {fp wr:List Addr} {G:Array GenState→Array GenState→Prop} {n:Nat} {P:Nat→Value→Prop} {St:Nat→Shared→Prop}
end
section
variable {prog:Program} {w:World} {A:Around} {E:Value→Shared→Prop} {s:Shared}
end
end RV
namespace VT
open PySem PySem.Spec PyProof.Rows L2
section
variable {X:Cx}
end
section
variable {X:Cx} {Z:Zc} {a:Expr} {fa:FE} {p1 p2 F_ zF:Pos}
end
theorem yH {n:Nat} (h:n+101 < cLine):n+1 < cLine:=by omega
section
variable {X:Cx} {Z:Zc} {ek ev:Expr} {fk fv:FE} {pos:Pos}
end
section
variable {X:Cx}
end
section
variable {K:PySem.W.Frag} {H:Hp} {A:List Addr}
theorem rq:∀ {ys:List Str} {vs:List V},aG K H A (ys.map T.str) vs→vs=ys.map V.str
 | [],vs,h=>by simpa only [Hy,aG] using h
 | y :: ys,vs,h=>by
   simp only [jr,aG] at h
   obtain ⟨v,r,rfl,h1,h2⟩:=h
   simp only [At] at h1
   rw [h1,rq h2]
   rfl
end
section
variable {X:Cx}
theorem zP (hu:X.A.units+101 < cLine):dY X (compareOp .In) (fun x y H Q=>∃ (p q:Addr) (xs:List V) (ys:List Str),x = .ref p∧y = .ref q∧dw X.K H p xs∧dw X.K H q (ys.map V.str)∧Q (.bl false) H):=by
 intro pins s σ H x y v u Q I rx ry h
 obtain ⟨p,q,xs,ys,rfl,rfl,h1,h2,hq⟩:=h
 cases rx
 cases ry
 obtain ⟨aK,r,pl,hz⟩:=I.tuple h1
 obtain ⟨ej,r2,Xw,Zq⟩:=I.tuple h2
 have jM:∀ w∈ej.toArray,SeqAt.EqAt X.A.in1 s w (.ref p) false:=by
  intro w hw
  have Xx:w∈ej:=by simpa using hw
  obtain ⟨i,hi⟩:=MZ.mp Xx
  have hl:=r2.length
  rw [b_] at hl
  have Xy:i < ys.length:=by have:=(gh.mp hi).1; omega
  obtain ⟨u,cz,ru⟩:=r2.get (show (ys.map V.str)[i]?=some (.str ys[i]) by rw [k9,j_ Xy]; rfl)
  rw [hi] at cz
  cases cz
  obtain ⟨t,rfl⟩:=ru
  exact SeqAt.EqAt.str_tuple _ _ pl (by rw [in1_units]; omega)
 refine SeqAt.in_tupleAt (fun _=>false) Xw jM ⟨.bl false,H,I,?_,hq⟩
 show Value.bool _=Value.bool false
 congr 1
 exact Array.any_eq_false.mpr (by simp)
def Lf (x y:T) (q:Rt→Prop):Prop:=match x,y with
 | .tup _,.tup us=>∃ ys:List Str,us=ys.map .str∧q (.vw (.bl false))
 | _,_=>False
theorem Gr {K:PySem.W.Frag}:nW K (fun x y H Q=>∃ (p q:Addr) (xs:List V) (ys:List Str),x = .ref p∧y = .ref q∧dw K H p xs∧dw K H q (ys.map V.str)∧Q (.bl false) H) Lf:=by
 intro Z tm O ρ σ H x y v w q Q I h1 h2 h k
 unfold Lf at h
 split at h
 · obtain ⟨ys,rfl,h⟩:=h
   obtain ⟨a,vs,rfl,s1,_⟩:=h1.tup
   obtain ⟨b,ws,rfl,s2,a2⟩:=h2.tup
   have e:ws=ys.map V.str:=rq a2
   rw [e] at s2
   exact ⟨a,b,vs,ys,rfl,rfl,s1,s2,k _ h _ H (aJ.refl H) ⟨I,cu⟩⟩
 · exact h.elim
def Lg (x y:T) (q:Rt→Prop):Prop:=match x with
 | .tup _=>Lf x y q
 | _=>Ou x y q
def OZ (K:PySem.W.Frag):R2:=fun x y H Q=>B8 K false x y H Q∨∃ (p q:Addr) (xs:List V) (ys:List Str),x = .ref p∧y = .ref q∧dw K H p xs∧dw K H q (ys.map V.str)∧Q (.bl false) H
theorem Lh (hu:X.A.units+101 < cLine):dY X (compareOp .In) (OZ X.K):=by
 intro pins s σ H x y v u Q I rx ry h
 rcases h with h | h
 · exact wo pins s σ H x y v u Q I rx ry h
 · exact zP hu pins s σ H x y v u Q I rx ry h
theorem Gs {K:PySem.W.Frag}:nW K (OZ K) Lg:=by
 intro Z tm O ρ σ H x y v w q Q I h1 h2 h k
 unfold Lg at h
 split at h
 · exact Or.inr (Gr Z tm O ρ σ H _ y v w q Q I h1 h2 h k)
 · exact Or.inl (wq Z tm O ρ σ H x y v w q Q I h1 h2 h k)
end
section
variable {X:Cx} {Z:Zc} {a b e:Expr} {fa fb:FE} {pos:Pos}
theorem Li (hu:X.A.units+101 < cLine) (ha:VR X Z a fa) (hb:VR X Z b fb) (hm:behindInMarks .In b=false:=by rfl):VP X Z (.Compare a [.In] [b] pos) (f2 fa fb Lg):=nX (Lh hu) Gs ha hb hm
end
abbrev Xz:=En→(List (Key×T)→Prop)→Prop
section
variable {X:Cx} {Z:Zc} {ek ev:Expr} {fk fv:FE} {pos:Pos} {keys:List (Option Expr)} {values:List Expr} {f:Xz}
variable {e:Expr} {apos bf:Pos}
end
section
variable {X:Cx} {Z:Zc} {a b o e i:Expr} {fa fb fe fo fi:FE} {pos apos bf:Pos}
end
def andM (r:Rt) (A B:Prop):Prop:=match r with
 | .vw (.bl true)=>A
 | .vw (.bl false)=>B
 | _=>False
theorem yI {c:Bool} {A B:Prop} (h1:c=true→A) (h2:c=false→B):andM (.vw (.bl c)) A B:=by
 cases c with
 | true=>exact h1 rfl
 | false=>exact h2 rfl
section
variable {X:Cx} {Z:Zc} {k n:Nat} {x:Str} {p pos:Pos} {e:Expr} {es:List Expr} {g:FA}
abbrev GV:=List T→(Rt→Prop)→Prop
def CI (i n:Nat) (g:FA) (Fn:Addr→GV→Prop):FP:=fun ρ Q=>match ρ[i]? with
 | some (some (.ob f,false))=>∃ G,Fn f G∧g ρ fun ts=>ts.length=n∧G ts Q
 | _=>False
theorem CJ (i:Nat) {Fn:Addr→GV→Prop} (C:∀ f G,Fn f G→PySem.W.keepIn X.K (.ref f)=true∧∃ fd ps,Binds X.K fd ps []∧cD X.prog X.w X.K X.mg X.base iK k f fd ps (bS X.K n G)) (hr:bp k X.A) (ha:VA X Z (e :: es) g)
  (hN:X.N[i]?=some x:=by rfl) (hv:rR X.env.scope x:=by first | exact Or.inl rfl | exact Or.inr (Or.inl rfl) | exact Or.inr (Or.inr rfl)) (hd:gg x:=by decide)
  (iA:tZ x:=by decide) (he:starEach (e :: es) X.env=(false,eval e X.env) :: starEach es X.env:=by rfl) (fM:(backTo pos (starEach es X.env)).any (·.1)=false:=by rfl) :
  VP X Z (.Call (.Name x p) (e :: es) [] pos) (CI i n g Fn):=.mk fun tm pins s σ H Q I ⟨ρ,O,q,E,hf,kk⟩=>by
 unfold CI at hf
 split at hf
 · rename_i f e0
   obtain ⟨G,XA,hf⟩:=hf
   obtain ⟨o,sv,h1,h2,rfl,v,rfl,h3⟩:=E.sl i _ e0
   simp only [At] at h3
   subst h3
   obtain ⟨hk,fd,ps,hb,F⟩:=C f G XA
   refine wpAny_Call_Name_kw (bT (cQ hN hv hd iA pins s σ H (fun v H'=>v = .ref f∧H'=H) I ⟨_,h2,rfl,rfl⟩) fun u s1 ⟨v,H1,I1,r,ev,eH⟩=>?_)
   subst ev eH
   obtain rfl:u=Value.ref f:=r
   refine QH (h₀:=X.base) I1.ok.mod.Mu hk (bT (ha tm pos pins s1 σ H1 (fun vs H2=>bS X.K n G (vs ++ []) H2 Q E0) I1 ⟨ρ,O,_,E,hf,fun ts gE vs H2 s2 a2=>yx (E.same s2) a2 gE.1 gE.2 fun r hr v H' s z=>kk r hr v H' (s2.trans s) z⟩) fun us s2 ⟨vs,H2,I2,r2,q2⟩=>⟨I2.la,?_⟩) he fM
   exact BC F hr hb .nil ud I2 r2 q2
 · exact hf.elim
end
end VT
namespace fH
open PySem L2 VT Gen ym
abbrev dc:Stmt:=top 22
abbrev de:Stmt:=top 23
abbrev dO:Stmt:=top 24
structure Lj (w:World) (K:PySem.W.Frag) (mg:Str→Option Value):Prop where
 m2:Rb mg
 wK:∃ t,mg "MOST_PARTS" = some (.int 4 t)
 wL:∃ a,mg "RECKONINGS" = some (.ref a)∧∀ H,dw K H a [.str "plus",.str "minus",.str "times",.str "over",.str "rest",.str "less",.str "same"]
 isinstance:mg "isinstance" = none
 int:mg "int" = none
 bool:mg "bool" = none
 str:mg "str" = none
 len:mg "len" = none
 all:mg "all" = none
 tuple:mg "tuple" = none
 set:mg "set" = none
 zip:mg "zip" = none
def Gu:T→Bool
 | .str x=>sd x
 | _=>false
def CK (t:T):Bool:=Gu t || gR t
def O0:List T:=[.str "plus",.str "minus",.str "times",.str "over",.str "rest",.str "less",.str "same"]
def Ll:T→Bool
 | .tup _=>false
 | t=>p_ t O0
def Lm:T→Bool
 | .tup l=>decide (l.length≤4) && l.all gR
 | _=>false
def strsOf (l:List T):List Str:=l.filterMap fun t=>match t with
 | .str x=>some x
 | _=>none
def Ln:T→Bool
 | .tup l=>(decide (l.length≤4) && l.all gR) && (l.all dW && decide ((once (strsOf l)).length=l.length))
 | _=>false
def qB (t:T):Prop:=(∃ x,t = .str x∧x.length≤100)∨∃ i,t = .int i
def Part (t:T):Prop:=qB t∨∃ l,t = .tup l∧l.length≤10∧∀ u∈l,qB u
theorem qB.flat {t:T} (h:qB t):kJ t=true:=by rcases h with ⟨x,rfl,_⟩ | ⟨i,rfl⟩ <;> rfl
theorem qB.short {t:T} (h:qB t):∀ x,t = .str x→x.length≤1000:=by
 rintro x rfl
 rcases h with ⟨y,e,hy⟩ | ⟨i,e⟩
 · cases e; omega
 · cases e
theorem Part.flat {t:T} (h:Part t):kJ t=true:=by rcases h with h | ⟨l,rfl,_⟩; exact h.flat; rfl
theorem Part.short {t:T} (h:Part t):∀ x,t = .str x→x.length≤1000:=by
 rcases h with h | ⟨l,rfl,_⟩
 · exact h.short
 · intro x e; cases e
def uU (p:T→Bool) (ts:List T) (q:Rt→Prop):Prop:=∃ t,ts=[t]∧Part t∧q (.vw (.bl (p t)))
abbrev Lo:=uU Gu
abbrev CL:=uU CK
abbrev Lp:=uU Ll
abbrev Gv:=uU Lm
abbrev Lq:=uU Ln
theorem nt {b:Bool} (h:(!b)=true):b=false:=by cases b <;> simp_all
theorem nf {b:Bool} (h:¬ (!b)=true):b=true:=by cases b <;> simp_all
theorem oW (p:T→Bool):∀ l:List T,bY (l.map fun t=>T.bl (p t))=some (l.map p)
 | []=>rfl
 | t :: l=>by
   rw [jr,jr]
   show (bY _).map _=_
   rw [oW p l]
   rfl
theorem oX {l:List T} (h:l.all dW=true):l=(strsOf l).map .str:=by
 induction l with
 | nil=>rfl
 | cons t l ih =>
   rw [vP,iC] at h
   cases t with
   | str x =>
     show T.str x :: l=T.str x :: (strsOf l).map T.str
     rw [← ih h.2]
   | _=>cases h.1
section
variable {P:Program} {w:World} {K:PySem.W.Frag} {mg:Str→Option Value} {base:Heap}
abbrev wM:List Str:=["thing"]
theorem mq:aI wM ["thing"] (aj jV):=L2.gI
theorem uV {f:Addr} {fd:FuncData} (D:Df K mg "is_field" jV ["thing"] f fd) (M:Lj w K mg) (gm:bW P w K mg base "is_name" ["thing"] 1 (bS K 1 ig)):bW P w K mg base "is_field" ["thing"] 2 (bS K 1 Lo):=by
 obtain ⟨lQ,jY,dI,dJ,dM,dN⟩:=gm
 refine D.ji (jU D.F mq rfl fun bD A outer s H E Ox hr ts q hG=>?_)
 have nd:=mq.nd
 refine ⟨_,(ah (aD (VP.vx (lr (eB ow (by rfl) M.isinstance (by rfl) M.str Cc (aa 0)) (lr (zE (aa 0) (VP.vr ao)) (jP (aM dN (hr.mono (by decide)) (by rfl) dI dJ dM (ae (VP.ve (b5 (aa 0) (ck (VP.vr ag)) dU)) ai)))))))),fun _=>?_⟩
 obtain ⟨t,rfl,ht,hq⟩:=hG
 rcases ht with (⟨x,rfl,hx⟩ | ⟨i,rfl⟩) | ⟨l,rfl,_⟩
 · refine ⟨rfl,?_⟩
   have fS:q (.vw (.bl (Txt.startswith x "." && cj (Txt.slice x (some 1) none)))):=hq
   refine yI (c:=Txt.startswith x ".") (fun h=>?_) (fun h=>?_)
   · rw [h,y9] at fS
     refine ⟨jW (by omega),rfl,_,rfl,rfl,fun y e=>?_,fS⟩
     cases e
     exact mD (Txt.slice_le x _ _) (by omega)
   · rw [h,Hx] at fS
     exact fS
 · exact ⟨rfl,hq⟩
 · exact ⟨rfl,hq⟩
abbrev CM:List Str:=["thing"]
theorem rz:aI CM ["thing"] (aj oQ):=L2.gI
theorem zQ {f:Addr} {fd:FuncData} (D:Df K mg "is_key" oQ ["thing"] f fd) (M:Lj w K mg) (wN:bW P w K mg base "is_field" ["thing"] 2 (bS K 1 Lo)) (dg:bW P w K mg base "is_operand" ["thing"] 2 (bS K 1 CH)):bW P w K mg base "is_key" ["thing"] 3 (bS K 1 CL):=by
 obtain ⟨Lr,Ip,wO,wQ,wR,wU⟩:=wN
 obtain ⟨kL,jE,dh,di,dj,dm⟩:=dg
 refine D.ji (jU D.F rz rfl fun bD A outer s H E Ox hr ts q hG=>?_)
 have nd:=rz.nd
 refine ⟨_,(ah (aD (VP.vx (BS (aM wU (hr.mono (by decide)) (by rfl) wO wQ wR (ae (aq 0) ai)) (jP (aM dm (hr.mono (by decide)) (by rfl) dh di dj (ae (aq 0) ai))))))),fun _=>?_⟩
 obtain ⟨t,rfl,ht,hq⟩:=hG
 have fS:q (.vw (.bl (Gu t || gR t))):=hq
 refine ⟨rfl,t,rfl,ht,yI (c:=Gu t) (fun h=>?_) (fun h=>⟨rfl,t,rfl,ht.flat,ht.short,?_⟩)⟩
 · rw [h,Bool.true_or] at fS; exact fS
 · rw [h,Bool.false_or] at fS; exact fS
abbrev iT:List Str:=["thing"]
theorem ip:aI iT ["thing"] (aj dc):=L2.gI
theorem mQ {f:Addr} {fd:FuncData} (D:Df K mg "is_reckoning" dc ["thing"] f fd) (M:Lj w K mg):bW P w K mg base "is_reckoning" ["thing"] 1 (bS K 1 Lp):=by
 refine D.ji (jU D.F ip rfl fun bD A outer s H E Ox hr ts q hG=>?_)
 have nd:=ip.nd
 have hu:=bp.fz hr
 obtain ⟨aR,mR,hR⟩:=M.wL
 have sT:∀ {pos},VP (dB iK P w K mg base iT "is_reckoning" (aj dc) f bD A outer s H E).ni ⟨H,[],Ox⟩ (.Name "RECKONINGS" pos) (fC (.tup O0)):=ei (by rfl) mR (v:=.ref aR) rfl fun H A=>bz (hR H) (aG.cons bZ (aG.cons bZ (aG.cons bZ (aG.cons bZ (aG.cons bZ (aG.cons bZ (aG.cons bZ aG.nil)))))))
 refine ⟨_,(ah (aD (VP.vx (Li hu (aa 0) (VP.vr sT))))),fun _=>?_⟩
 obtain ⟨t,rfl,ht,hq⟩:=hG
 rcases ht with (⟨x,rfl,hx⟩ | ⟨i,rfl⟩) | ⟨l,rfl,_⟩
 · exact ⟨rfl,rfl,hq⟩
 · exact ⟨rfl,rfl,hq⟩
 · exact ⟨["plus","minus","times","over","rest","less","same"],rfl,hq⟩
abbrev eW:List Str:=["thing"]
theorem iq:aI eW ["thing"] (aj de):=L2.gI
theorem jZ:(eW ++ (["part"]:List Str)).Nodup:=by decide +kernel
theorem mT {f:Addr} {fd:FuncData} (D:Df K mg "are_operands" de ["thing"] f fd) (M:Lj w K mg) (dg:bW P w K mg base "is_operand" ["thing"] 2 (bS K 1 CH)):bW P w K mg base "are_operands" ["thing"] 3 (bS K 1 Gv):=by
 obtain ⟨kL,jE,dh,di,dj,dm⟩:=dg
 refine D.ji (jU D.F iq rfl fun bD A outer s H E Ox hr ts q hG=>?_)
 have nd:=iq.nd
 have np:∀ {i:Nat},aY ⟨H,[],Ox⟩ i:=ka
 obtain ⟨tP,mP⟩:=M.wK
 have sU:∀ {pos},VP (dB iK P w K mg base eW "are_operands" (aj de) f bD A outer s H E).ni ⟨H,[],Ox⟩ (.Name "MOST_PARTS" pos) (fC (.int 4)):=ei (by rfl) mP (v:=.int 4) ⟨_,rfl⟩ fun _ _=>bE
 refine ⟨_,(af (aL (VW.vc (iM (c_ (cS (eB oy (by rfl) M.isinstance (by rfl) M.tuple nC (aa 0)))) (fO (q9 (VP.vr (aE aA aB (by rfl) M.len gC (ak (aa 0) aw))) (VP.vr sU)))))
    (ah (aD (VP.vx jC)))
    ay)
   (ah (aD (VP.vx (aE (cZ rfl) jh (by rfl) M.all yB (ak (VP.vr (nA (ts:=["part"]) rfl (by rfl) (ly (aq 0)) (fun _ _ _ _ _ _=>(aW (i:=1) jZ rfl (Or.inl rfl) np)) (fun _ _ _ _ _ _=>kz) (fun _ _ _ _ _ _=>(VP.ve (aM dm (hr.mono (by decide)) (by rfl) dh di dj (ae (aq 1) ai)))))) aw)))))),fun _=>?_⟩
 obtain ⟨t,rfl,ht,hq⟩:=hG
 rcases ht with (⟨x,rfl,hx⟩ | ⟨i,rfl⟩) | ⟨l,rfl,hl,hL⟩
 · exact ⟨rfl,hq⟩
 · exact ⟨rfl,hq⟩
 · have fS:q (.vw (.bl (decide (l.length≤4) && l.all gR))):=hq
   refine ⟨rfl,?_⟩
   refine bP (fun h=>?_) (fun h=>?_)
   · have h':(4:Int) < (l.length:Int):=h
     rw [decide_eq_false (by omega),Hx] at fS
     exact fS
   · have h':¬ (4:Int) < (l.length:Int):=h
     rw [decide_eq_true (by omega),y9] at fS
     refine ⟨rfl,jW (by omega),jf (fun _=>true) (fun t=>T.bl (gR t)) (fun t ht k r h=>⟨rfl,t,rfl,(hL t ht).flat,(hL t ht).short,h⟩) ?_⟩
     rw [QG.mpr (fun _ _=>rfl)]
     refine ⟨l.map gR,oW gR l,?_⟩
     rw [List.all_map]
     exact fS
abbrev gn:List Str:=["thing"]
theorem fK:aI gn ["thing"] (aj dO):=L2.gI
theorem iU:(gn ++ (["part"]:List Str)).Nodup:=by decide +kernel
theorem kM {f:Addr} {fd:FuncData} (D:Df K mg "are_parameters" dO ["thing"] f fd) (M:Lj w K mg) (eX:bW P w K mg base "are_operands" ["thing"] 3 (bS K 1 Gv)) (gm:bW P w K mg base "is_name" ["thing"] 1 (bS K 1 ig)):bW P w K mg base "are_parameters" ["thing"] 4 (bS K 1 Lq):=by
 obtain ⟨oY,mU,eY,eZ,e7,e8⟩:=eX
 obtain ⟨lQ,jY,dI,dJ,dM,dN⟩:=gm
 refine D.ji (jU D.F fK rfl fun bD A outer s H E Ox hr ts q hG=>?_)
 have nd:=fK.nd
 have hu:=bp.fz hr
 have np:∀ {i:Nat},aY ⟨H,[],Ox⟩ i:=ka
 refine ⟨_,(af (aL (VW.vc (iM (c_ (cS (aM e8 (hr.mono (by decide)) (by rfl) eY eZ e7 (ae (aq 0) ai)))) (fO (c_ (cS (aE (cZ rfl) jh (by rfl) M.all yB (ak (VP.vr (nA (ts:=["part"]) rfl (by rfl) (ly (aq 0)) (fun _ _ _ _ _ _=>(aW (i:=1) iU rfl (Or.inl rfl) np)) (fun _ _ _ _ _ _=>kz) (fun _ _ _ _ _ _=>(VP.ve (aM dN (hr.mono (by decide)) (by rfl) dI dJ dM (ae (aq 1) ai)))))) aw)))))))
    (ah (aD (VP.vx jC)))
    ay)
   (ah (aD (VP.vx (ik hu (VP.vr (zG rfl (by rfl) M.len (by rfl) M.set (aa 0))) (VP.vr (aE aA aB (by rfl) M.len gC (ak (aa 0) aw)))))))),fun _=>?_⟩
 obtain ⟨t,rfl,ht,hq⟩:=hG
 refine ⟨rfl,t,rfl,ht,?_⟩
 rcases ht with (⟨x,rfl,hx⟩ | ⟨i,rfl⟩) | ⟨l,rfl,hl,hL⟩
 · exact hq
 · exact hq
 · have fS:q (.vw (.bl ((decide (l.length≤4) && l.all gR) && (l.all dW && decide ((once (strsOf l)).length=l.length))))):=hq
   refine BK (fun h=>?_) (fun h=>?_)
   · have h':(!(decide (l.length≤4) && l.all gR))=true:=h
     have h2:(decide (l.length≤4) && l.all gR)=false:=nt h'
     rw [h2,Hx] at fS
     exact fS
   · have h':¬ (!(decide (l.length≤4) && l.all gR))=true:=h
     have h2:(decide (l.length≤4) && l.all gR)=true:=nf h'
     rw [h2,y9] at fS
     refine ⟨rfl,jW (by omega),jf (fun _=>true) (fun t=>T.bl (dW t)) (fun t ht k r h=>⟨rfl,t,rfl,(hL t ht).flat,(hL t ht).short,h⟩) ?_⟩
     rw [QG.mpr (fun _ _=>rfl)]
     refine ⟨l.map dW,oW dW l,?_⟩
     rw [List.all_map]
     refine BK (fun h3=>?_) (fun h3=>?_)
     · have T5:(!(l.all dW))=true:=h3
       have h4:l.all dW=false:=nt T5
       rw [h4,Hx] at fS
       exact fS
     · have T5:¬ (!(l.all dW))=true:=h3
       have h4:l.all dW=true:=nf T5
       rw [h4,y9] at fS
       refine ⟨strsOf l,.inr (by rw [← oX h4]),?_,?_⟩
       · have:=congrArg List.length (oX h4)
         rw [b_] at this
         omega
       · have e:decide (((once (strsOf l)).length:Int)=(l.length:Int))=decide ((once (strsOf l)).length=l.length):=decide_eq_decide.mpr (by omega)
         show q (.vw (.bl (decide (((once (strsOf l)).length:Int)=(l.length:Int)))))
         rw [e]
         exact fS
end
abbrev oZ:Stmt:=top 26
inductive So where
 | nm | op | key | rk | par | ops
def fnName:So→Str
 | .nm=>"is_name"
 | .op=>"is_operand"
 | .key=>"is_key"
 | .rk=>"is_reckoning"
 | .par=>"are_parameters"
 | .ops=>"are_operands"
def jy:So→T→Bool
 | .nm=>dW
 | .op=>gR
 | .key=>CK
 | .rk=>Ll
 | .par=>Ln
 | .ops=>Lm
def T6:So→List T→(Rt→Prop)→Prop
 | .nm=>ig
 | .op=>CH
 | .key=>CL
 | .rk=>Lp
 | .par=>Lq
 | .ops=>Gv
theorem CN {s:So} {t:T} {q:Rt→Prop} (h:Part t) (hq:q (.vw (.bl (jy s t)))):T6 s [t] q:=by
 cases s with
 | nm=>exact ⟨t,rfl,h.flat,h.short,hq⟩
 | op=>exact ⟨t,rfl,h.flat,h.short,hq⟩
 | _=>exact ⟨t,rfl,h,hq⟩
def mw:List (Str×List So):=[("def",[.nm,.par]),("give",[.op]),("put",[.nm,.op]),("do",[.nm,.op,.rk,.op]),("new",[.nm]),("get",[.nm,.nm,.key]),("set",[.nm,.key,.op]),("call",[.nm,.nm,.ops]),("fail",[.nm]),("if",[.op]),("else",[]),("while",[.op]),("end",[]),("skip",[])]
def kN:List (Str×List So)→Str→Option (List So)
 | [],_=>none
 | (k,ss) :: l,x=>if k=x then some ss else kN l x
def o4 (x:Str) (ps:List T):Bool:=match kN mw x with
 | none=>false
 | some ss=>decide (ps.length=ss.length) && (List.zipWith jy ss ps).all id
theorem rA (fo:So→Addr) (x:Str):∀ l:List (Str×List So),Gh (l.map fun p=>(p.1,T.tup (p.2.map fun s=>T.ob (fo s)))) x=(kN l x).map fun ss=>T.tup (ss.map fun s=>T.ob (fo s))
 | []=>rfl
 | (k,ss) :: l=>by
   have ih:=rA fo x l
   unfold Gh at ih ⊢
   simp only [jr,fQ,kN]
   by_cases h:k=x
   · rw [if_pos h,if_pos (by rw [h])]; rfl
   · rw [if_neg h,if_neg (fun z=>h (Sum.inr.inj z))]; exact ih
theorem zR:∀ x ss,kN mw x=some ss→ss.length≤4:=by
 intro x ss
 have:∀ l:List (Str×List So),(∀ p∈l,p.2.length≤4)→kN l x=some ss→ss.length≤4:=by
  intro l
  induction l with
  | nil=>intro _ h; cases h
  | cons p l ih =>
    intro hl h
    obtain ⟨k,s0⟩:=p
    simp only [kN] at h
    split at h
    · cases h; exact hl _ jz
    · exact ih (fun p hp=>hl p (jc _ hp)) h
 exact this mw (by simp [mw])
theorem rB {α:Type} {h:FG} {fe:FE} {ρ:En} {fA:α→T} {b:α→T→Bool}:∀ {ss:List α} {ps:List T} {Q:List T→Prop},(∀ s∈ss,∀ p∈ps,∀ r:T→Prop,r (.bl (b s p))→h (.tup [fA s,p]) ρ fun ρ2=>fe ρ2 r)→Q ((List.zipWith b ss ps).map .bl)→d8 h Kx fe ρ (oH (ss.map fA) ps) Q
 | [],ps,Q,_,hq=>by simpa [oH,d8] using hq
 | s :: ss,[],Q,_,hq=>by simpa [oH,d8] using hq
 | s :: ss,p :: ps,Q,step,hq=>by
   show d8 h Kx fe ρ (T.tup [fA s,p] :: oH (ss.map fA) ps) Q
   simp only [d8]
   refine step s jz p jz _ ?_
   exact rB (fun s hs p hp=>step s (jc _ hs) p (jc _ hp)) hq
theorem uW:∀ l:List Bool,bY (l.map T.bl)=some l
 | []=>rfl
 | b :: l=>by
   rw [jr]
   show (bY _).map _=_
   rw [uW l]
   rfl
structure VZ (w:World) (K:PySem.W.Frag) (mg:Str→Option Value):Prop extends Lj w K mg where
 O3:∃ (a:Addr) (fo:So→Addr),mg "FORMS" = some (.ref a)∧(∀ s,mg (fnName s)=some (.ref (fo s)))∧yF w K a (mw.map fun p=>(p.1,T.tup (p.2.map fun s=>T.ob (fo s))))
def O5 (ts:List T) (q:Rt→Prop):Prop:=∃ (x:Str) (ps:List T),ts=[.tup (.str x :: ps)]∧ps.length≤10∧(∀ p∈ps,Part p)∧q (.vw (.bl (o4 x ps)))
theorem T7 (t:T) (ps:List T):cm (t :: ps) (some 1) none=ps:=by
 unfold cm
 have e:HT.cX (t :: ps).length 0 (some 1)=1:=by
  have:=HT.km (t :: ps).length 0 1
  rw [show ((1:Nat):Int)=1 from rfl] at this
  rw [this]
  simp
 rw [e,HT.iH]
 simp
section
variable {P:Program} {w:World} {K:PySem.W.Frag} {mg:Str→Option Value} {base:Heap}
abbrev uX:List Str:=["row","form"]
theorem rC:aI uX ["row"] (aj oZ):=L2.gI
theorem kO:(uX ++ (["fits","part"]:List Str)).Nodup:=by decide +kernel
theorem zS {f:Addr} {fd:FuncData} (D:Df K mg "is_row" oZ ["row"] f fd) (M:VZ w K mg) (gm:bW P w K mg base "is_name" ["thing"] 1 (bS K 1 ig)) (dg:bW P w K mg base "is_operand" ["thing"] 2 (bS K 1 CH)) (CO:bW P w K mg base "is_key" ["thing"] 3 (bS K 1 CL)) (o5:bW P w K mg base "is_reckoning" ["thing"] 1 (bS K 1 Lp)) (lU:bW P w K mg base "are_parameters" ["thing"] 4 (bS K 1 Lq)) (eX:bW P w K mg base "are_operands" ["thing"] 3 (bS K 1 Gv)):bW P w K mg base "is_row" ["row"] 5 (bS K 1 O5):=by
 obtain ⟨lQ,jY,dI,dJ,dM,dN⟩:=gm
 obtain ⟨kL,jE,dh,di,dj,dm⟩:=dg
 obtain ⟨O6,MF,CP,CQ,CS,CT⟩:=CO
 obtain ⟨CU,Bh,o6,o7,o8,o9⟩:=o5
 obtain ⟨zT,yJ,lV,lW,lY,lZ⟩:=lU
 obtain ⟨oY,mU,eY,eZ,e7,e8⟩:=eX
 refine D.ji (jU D.F rC rfl fun bD A outer s H E Ox hr ts q hG=>?_)
 have nd:=rC.nd
 have hu:=bp.fz hr
 have np:∀ {i:Nat},aY ⟨H,[],Ox⟩ i:=ka
 obtain ⟨aF,fo,Gw,JY,CV⟩:=M.O3
 have Ls:∀ f' G,(∃ s:So,f'=fo s∧G=T6 s)→PySem.W.keepIn K (.ref f')=true∧∃ fd ps,Binds K fd ps []∧cD P w K mg base iK 4 f' fd ps (bS K 1 G):=by
  rintro f' G ⟨s,rfl,rfl⟩
  have h:=JY s
  cases s with
  | nm=>cases dI.symm.trans h; exact ⟨dJ,_,_,dM,dN.mono (by decide)⟩
  | op=>cases dh.symm.trans h; exact ⟨di,_,_,dj,dm.mono (by decide)⟩
  | key=>cases CP.symm.trans h; exact ⟨CQ,_,_,CS,CT.mono (by decide)⟩
  | rk=>cases o6.symm.trans h; exact ⟨o7,_,_,o8,o9.mono (by decide)⟩
  | par=>cases lV.symm.trans h; exact ⟨lW,_,_,lY,lZ.mono (by decide)⟩
  | ops=>cases eY.symm.trans h; exact ⟨eZ,_,_,e7,e8.mono (by decide)⟩
 refine ⟨_,(af (aL (VW.vc (iM (c_ (cS (eB oy (by rfl) M.isinstance (by rfl) M.tuple nC (aa 0)))) (iM (br hu (VP.vr (aE aA aB (by rfl) M.len gC (ak (aa 0) aw))) (VP.vr ag)) (fO (c_ (cS (eB ow (by rfl) M.isinstance (by rfl) M.str Cc (VP.vr (aQ (aa 0) (VP.vr ag))))))))))
    (ah (aD (VP.vx jC)))
    ay)
   (af (aP (i:=1) nd rfl (Or.inl rfl) (VP.vx (Cz (by rfl) Gw CV (VP.vr (aQ (aa 0) (VP.vr ag))) ⟨rfl,rfl,rfl,rfl⟩)) np)
   (af (aL (VW.vc (iM (uD (aa 1) (VP.vr gK)) (fO (kx hu (VP.vr (aE aA aB (by rfl) M.len gC (ak (aa 0) aw))) (VP.vr (bt (VP.vr (aE aA aB (by rfl) M.len gC (ak (aa 1) aw))) (VP.vr ag)))))))
     (ah (aD (VP.vx jC)))
     ay)
   (ah (aD (VP.vx (aE (cZ rfl) jh (by rfl) M.all yB (ak (VP.vr (nA (ts:=["fits","part"]) rfl (by rfl) (K1 (by rfl) M.zip (aq 1) (VP.ve (b5 (aa 0) (ck (VP.vr ag)) dU))) (fun _ _ _ _ _ _=>(gO (n:=2) rfl (bx (aW (i:=2) kO rfl (Or.inl rfl) np) (bx (aW (i:=3) kO rfl (Or.inl rfl) np) eA)))) (fun _ _ _ _ _ _=>kz) (fun _ _ _ _ _ _=>(VP.ve (CJ 2 Ls (hr.mono (by decide)) (ae (aq 3) ai)))))) aw)))))))),fun _=>?_⟩
 obtain ⟨x,ps,rfl,hl,hP,hq⟩:=hG
 have O7:=rA fo x mw
 refine ⟨rfl,_,au (j:=0) rfl,rfl,_,au (j:=0) rfl,?_⟩
 show onStr (T.str x) _
 unfold onStr
 dsimp only
 rw [O7]
 cases hf:kN mw x with
 | none =>
   have hg:o4 x ps=false:=by unfold o4; rw [hf]
   rw [hg] at hq
   exact hq
 | some ss =>
   have hg:o4 x ps=(decide (ps.length=ss.length) && (List.zipWith jy ss ps).all id):=by unfold o4; rw [hf]
   rw [hg] at hq
   have Zr:=zR x ss hf
   have el:(((T.str x :: ps).length:Nat):Int)=(ps.length:Int)+1:=by rw [IW]; omega
   have V0:(((ss.map fun s=>T.ob (fo s)).length:Nat):Int)=(ss.length:Int):=by rw [b_]
   refine BK (fun h=>?_) (fun h=>?_)
   · have h':(!decide (((T.str x :: ps).length:Int)=((ss.map fun s=>T.ob (fo s)).length:Int)+1))=true:=h
     have h2:=of_decide_eq_false (nt h')
     rw [el,V0] at h2
     rw [decide_eq_false (by omega),Hx] at hq
     exact hq
   · have h':¬ (!decide (((T.str x :: ps).length:Int)=((ss.map fun s=>T.ob (fo s)).length:Int)+1))=true:=h
     have h2:=of_decide_eq_true (nf h')
     rw [el,V0] at h2
     rw [decide_eq_true (by omega),y9] at hq
     have T8:¬ (HT.cX (T.str x :: ps).length 0 (some 1)=0∧HT.cX (T.str x :: ps).length (T.str x :: ps).length none=(T.str x :: ps).length):=by
      rintro ⟨z,_⟩
      have:=HT.km (T.str x :: ps).length 0 1
      rw [show ((1:Nat):Int)=1 from rfl,z] at this
      simp at this
     refine ⟨rfl,T8,?_⟩
     rw [T7]
     refine ⟨?_,rB (b:=jy) (fun s _ p hp r hr=>?_) ⟨_,uW _,hq⟩⟩
     · show (oH (ss.map fun s=>T.ob (fo s)) ps).length≤sizeLine
       unfold oH
       rw [List.length_zipWith]
       exact jW (by omega)
     · exact ⟨rfl,rfl,T6 s,⟨s,rfl,rfl⟩,rfl,CN (q:=fun x=>r x.t) (hP p hp) hr⟩
end
end fH
namespace Gen
open PySem L2 VT
open ym (bw Er cj)
theorem yK (n:Int):Er (gk n)=true:=by
 have h0:0≤n % 26:=k_ n (by decide)
 have h1:n % 26 < 26:=mB n (by decide)
 have h:∀ j < 26,Er (bw.cps.toList.getD j 0)=true:=by decide +kernel
 exact h _ (by omega)
theorem CW {a b:Int} (h:gk a=gk b):a % 26=b % 26:=by
 have a0:0≤a % 26:=k_ a (by decide)
 have a1:a % 26 < 26:=mB a (by decide)
 have b0:0≤b % 26:=k_ b (by decide)
 have b1:b % 26 < 26:=mB b (by decide)
 have k:∀ i < 26,∀ j < 26,bw.cps.toList.getD i 0=bw.cps.toList.getD j 0→i=j:=by decide +kernel
 have:=k (a % 26).toNat (by omega) (b % 26).toNat (by omega) h
 omega
theorem zU {c:Int} {k k' n:Nat} (hn:zK c < n) (hk:k < 26) (OK:k' < 26) (h:bN c k n=bN c k' n):k=k':=by
 have h2:((List.range n).map fun j=>gk (sN c k j))=((List.range n).map fun j=>gk (sN c k' j)):=by
  have:=congrArg (fun y:Str=>y.cps.toList) h
  exact this
 have h3:=congrArg (fun l:List Nat=>l[zK c]?) h2
 simp only [k9,List.getElem?_range hn,Option.map_some,Option.some.injEq] at h3
 have h4:=CW h3
 unfold sN at h4
 rw [if_pos rfl,if_pos rfl] at h4
 omega
theorem o_ {c:Int} {k n:Nat} (h1:1≤n) (h8:n≤8):cj (bN c k n)=true:=by
 unfold cj
 rw [eF,decide_eq_true (by omega),decide_eq_true (by omega),y9,y9]
 show ((List.range n).map fun j=>gk (sN c k j)).all Er=true
 rw [List.all_map]
 exact y8.mpr fun j _=>yK _
theorem CY {x:Str} {n:Int} (h:cj x=true) (hl:x.length≤7):cj (x ++ ⟨#[gk n]⟩)=true:=by
 have hx:=ym.se h
 have el:(x ++ (⟨#[gk n]⟩:Str)).length=x.length+1:=by
  show (x.cps ++ #[gk n]).size=_
  simp [Str.length]
 unfold cj
 rw [el,decide_eq_true (by omega),decide_eq_true (by omega),y9,y9]
 show (x.cps ++ #[gk n]).toList.all Er=true
 simp only [Array.toList_append,List.all_append,hx,y9]
 simp [yK]
theorem Gx (x:Str) (n:Int):(x ++ (⟨#[gk n]⟩:Str)).length=x.length+1:=by
 show (x.cps ++ #[gk n]).size=_
 simp [Str.length]
theorem zV {c:Int} {m:Nat} {y:Str} (h:y∈cH c m):(∃ k < m,y=bN c k (jx c))∨y=bN c 0 (jx c) ++ ⟨#[gk (qz c / 147)]⟩:=by
 have hz:∀ {y},y∈((List.range m).map fun k=>bN c k (jx c))→∃ k < m,y=bN c k (jx c):=fun h=>by
  obtain ⟨k,hk,rfl⟩:=y_.mp h
  exact ⟨k,Ei.mp hk,rfl⟩
 unfold cH at h
 split at h
 · rcases IP h with h | h
   · exact .inl (hz h)
   · exact .inr h
 · exact .inl (hz h)
theorem wV {c:Int} {m:Nat}:∀ y∈cH c m,cj y=true:=by
 intro y hy
 have hs:=oN c
 rcases zV hy with ⟨k,_,rfl⟩ | rfl
 · exact o_ (by omega) (by omega)
 · exact CY (o_ (by omega) (by omega)) (by rw [eF]; omega)
theorem uY {c:Int} {m:Nat} (hm:m≤26):(cH c m).Nodup:=by
 have hs:=oN c
 have ha:=OQ c
 have base:((List.range m).map fun k=>bN c k (jx c)).Nodup:=by
  rw [List.Nodup,List.pairwise_map]
  refine List.Pairwise.imp_of_mem ?_ (List.nodup_range (n:=m))
  intro a b XB T9 pZ e
  exact pZ (zU ha (by have:=Ei.mp XB; omega) (by have:=Ei.mp T9; omega) e)
 unfold cH
 split
 · generalize hl:((List.range m).map fun k=>bN c k (jx c))=l at base
   have hv:bN c 0 (jx c) ++ (⟨#[gk (qz c / 147)]⟩:Str)∉l:=by
    intro z
    rw [← hl] at z
    obtain ⟨k,_,e⟩:=y_.mp z
    have:=congrArg Str.length e
    rw [Gx,eF,eF] at this
    omega
   rw [List.Nodup,RB]
   rw [List.Nodup,RB] at base
   intro i j hi hj Fo
   rw [Hu] at hi hj
   have b:=base i j hi hj Fo
   rw [List.getElem_set,List.getElem_set]
   split
   · split
     · omega
     · intro z
       exact hv (by rw [z]; exact A9 _)
   · split
     · intro z
       exact hv (by rw [← z]; exact A9 _)
     · exact b
 · exact base
def zW (ys:List Str):Rw→Prop
 | .df f ps=>f∈ys∧ps.length≤2∧ps.Nodup∧∀ p∈ps,p∈ys
 | .give a=>cK ys a
 | .put x a=>x∈ys∧cK ys a
 | .Gi x a op b=>x∈ys∧cK ys a∧op∈reckon∧cK ys b
 | .new x=>x∈ys
 | .get x r k=>x∈ys∧r∈ys∧zL ys k
 | .set r k a=>r∈ys∧zL ys k∧cK ys a
 | .call x f as=>x∈ys∧f∈ys∧as.length≤2∧∀ a∈as,cK ys a
 | .fail w=>w∈ys
 | .Ld a=>cK ys a
 | .Ew a=>cK ys a
 | _=>True
theorem CZ {l:List Str} (nd:l.Nodup) {i j:Nat} (hi:i < l.length) (hj:j < l.length) (e:l[i]=l[j]):i=j:=by
 rw [List.Nodup,RB] at nd
 rcases Nat.lt_trichotomy i j with h | h | h
 · exact absurd e (nd i j hi hj h)
 · exact h
 · exact absurd e.symm (nd j i hj hi h)
theorem zX {ys:List Str} (hl:ys.length=6) (nd:ys.Nodup) {a:Int} {r:Nat} (hr:r≤2):((List.range r).map fun j=>ys.getD ((a+((j:Nat):Int)) % 4).toNat Str.empty).Nodup∧∀ p∈((List.range r).map fun j=>ys.getD ((a+((j:Nat):Int)) % 4).toNat Str.empty),p∈ys:=by
 have hm:∀ j:Nat,((a+(j:Int)) % 4).toNat < ys.length:=fun j=>by
  have h0:0≤(a+(j:Int)) % 4:=k_ _ (by decide)
  have h1:(a+(j:Int)) % 4 < 4:=mB _ (by decide)
  omega
 have hg:∀ j:Nat,ys.getD ((a+(j:Int)) % 4).toNat Str.empty=ys[((a+(j:Int)) % 4).toNat]'(hm j):=fun j=>by
  rw [List.getD,j_ (hm j)]; rfl
 refine ⟨?_,?_⟩
 · rw [List.Nodup,List.pairwise_map]
   refine List.Pairwise.imp_of_mem ?_ (List.nodup_range (n:=r))
   intro i j hi hj pZ e
   rw [hg,hg] at e
   have:=CZ nd _ _ e
   have HJ:=Ei.mp hi
   have Ol:=Ei.mp hj
   have a0:0≤(a+(i:Int)) % 4:=k_ _ (by decide)
   have b0:0≤(a+(j:Int)) % 4:=k_ _ (by decide)
   omega
 · intro p hp
   obtain ⟨j,_,rfl⟩:=y_.mp hp
   rw [hg]
   exact A9 _
theorem zY {ys:List Str} {pl:Plan} (hp:∀ f ps,(f,ps)∈pl→f∈ys∧ps.length≤2) {r:Rw} (h:kF ys pl r):zW ys r:=by
 cases r <;> first
  | exact h
  | exact h.elim
  | (obtain ⟨h1,⟨ps,h2,h3⟩,h4⟩:=h
     exact ⟨h1,(hp _ _ h2).1,by rw [h3]; exact (hp _ _ h2).2,h4⟩)
theorem Lu {ys:List Str} {pl:Plan} (hp:∀ f ps,(f,ps)∈pl→f∈ys∧ps.length≤2) {cp new eD} (h:oO ys pl cp new eD):∀ r∈new,zW ys r:=by
 rcases h with ⟨o,ho,rfl,_⟩ | ⟨o,ho,rfl,_⟩ | ⟨y,hy,rfl,_⟩ | ⟨s0,_,rfl,_⟩ | ⟨s0,x,_,rfl,_⟩ | ⟨r,hr,rfl,_⟩ <;> intro r' Bi
 · simp only [dS,fD,or_false] at Bi; subst Bi; exact ho
 · simp only [dS,fD,or_false] at Bi; subst Bi; exact ho
 · simp only [dS,fD,or_false] at Bi
   rcases Bi with rfl | rfl
   · exact hy
   · exact ⟨hy,hy,by simp [reckon],by decide,by decide⟩
 · simp only [dS,fD,or_false] at Bi; subst Bi; trivial
 · simp only [dS,fD,or_false] at Bi; subst Bi; trivial
 · simp only [dS,fD,or_false] at Bi; subst Bi; exact zY hp hr
theorem Gy {ys:List Str} {pl:Plan} (hp:∀ f ps,(f,ps)∈pl→f∈ys∧ps.length≤2) {cp body} (h:Body ys pl cp body):∀ r∈body,zW ys r:=by
 induction h with
 | nil=>intro r hr; cases hr
 | step _ h2 ih =>
   intro r hr
   rcases jA.mp hr with hr | hr
   · exact ih r hr
   · exact Lu hp h2 r hr
theorem uZ {ys:List Str} {pl:Plan} (hl:ys.length=6) (hP:sO ys pl):∀ f ps,(f,ps)∈pl→f∈ys∧ps.length≤2:=by
 intro f ps h
 obtain ⟨k,hk⟩:=List.getElem?_of_mem h
 obtain ⟨h1,a,r,hr,rfl⟩:=hP k f ps hk
 exact ⟨mY h1,by rw [b_,EG]; exact hr⟩
theorem Lv {ys:List Str} {pl:Plan} (hl:ys.length=6) (nd:ys.Nodup) (hP:sO ys pl) {n:Nat} {rs:List Rw} (h:Pre ys pl n rs):∀ r∈rs,zW ys r:=by
 have hp:=uZ hl hP
 induction h with
 | zero=>intro r hr; cases hr
 | @succ k rs f ps cp body o sk _ hk hb ho hs ih =>
   intro r hr
   rcases jA.mp hr with hr | hr
   · exact ih r hr
   · rcases List.mem_cons.mp hr with rfl | hr
     · obtain ⟨h1,a,n,hn,rfl⟩:=hP k f ps hk
       have:=zX hl nd (a:=a) hn
       exact ⟨mY h1,by rw [b_,EG]; exact hn,this.1,this.2⟩
     · rcases jA.mp hr with hr | hr
       · exact Gy (fun f ps h=>hp f ps (M8 h)) hb r hr
       · rcases jA.mp hr with hr | hr
         · rw [(List.mem_replicate.mp hr).2]; trivial
         · rcases dS.mp hr with rfl | hr
           · exact ho
           · rcases hs with rfl | rfl
             · cases hr
             · simp only [dS,fD,or_false] at hr; subst hr; trivial
end Gen
deriving instance DecidableEq for fH.So
namespace fH
open PySem L2 VT Gen ym
theorem u3 {ys:List Str} (nd:ys.Nodup):∀ n,n≤ys.length→met (fun i=>ys.getD i Str.empty) n=ys.take n
 | 0,_=>rfl
 | n+1,h=>by
   have hl:n < ys.length:=by omega
   have ih:=u3 nd n (by omega)
   have e:ys.getD n Str.empty=ys[n]:=by rw [List.getD,j_ hl]; rfl
   have hn:ys[n]∉ys.take n:=by
    intro z
    obtain ⟨i,hi,he⟩:=List.mem_iff_getElem.mp z
    rw [List.getElem_take] at he
    rw [EH] at hi
    have:=CZ nd (by omega) hl he
    omega
   simp only [met,MD,ih,e]
   rw [if_neg (by simpa using hn),List.take_succ_eq_append_getElem hl]
theorem wW {ys:List Str} (nd:ys.Nodup):once ys=ys:=by
 unfold once
 rw [u3 nd _ (du _),Mq]
theorem kP {x:Str} (h:cj x=true):x.length≤8:=by
 unfold cj at h
 simp only [iC,decide_eq_true_eq] at h
 omega
section
variable {ys:List Str}
theorem cM (hn:∀ y∈ys,cj y=true) {o:nG} (h:cK ys o):gR (lL o)=true∧qB (lL o):=by
 cases o with
 | nm x =>
   have:=hn x h
   exact ⟨by show (cj x || false)=true; rw [this]; rfl,.inl ⟨x,rfl,by have:=kP this; omega⟩⟩
 | nu i =>
   obtain ⟨h1,h2⟩:=h
   exact ⟨by show (false || (decide (-1000000000000000000000000000000≤i) && decide (i < 1000000000000000000000000000000)))=true; rw [decide_eq_true h1,decide_eq_true h2]; rfl,.inr ⟨i,rfl⟩⟩
theorem cO (hn:∀ y∈ys,cj y=true) {x:Str} (h:x∈ys):dW (.str x)=true∧qB (.str x):=⟨hn x h,.inl ⟨x,rfl,by have:=kP (hn x h); omega⟩⟩
theorem u4 (hn:∀ y∈ys,cj y=true) {k:Ky} (h:zL ys k):CK (CA k)=true∧qB (CA k):=by
 cases k with
 | fld x =>
   have hx:=hn x h
   exact ⟨by show (sd _ || _)=true; rw [zt hx]; rfl,.inl ⟨_,rfl,by rw [Fm]; have:=kP hx; omega⟩⟩
 | op o =>
   have:=cM hn (o:=o) h
   exact ⟨by show (_ || gR (lL o))=true; rw [this.1,Bool.or_true],this.2⟩
theorem C0 {op:Str} (h:op∈reckon):Ll (.str op)=true∧qB (.str op):=by
 simp only [reckon,dS,fD,or_false] at h
 rcases h with rfl | rfl | rfl | rfl | rfl | rfl | rfl <;> exact ⟨by decide +kernel,.inl ⟨_,rfl,by decide +kernel⟩⟩
theorem pb:∀ ps:List Str,strsOf (ps.map .str)=ps
 | []=>rfl
 | p :: ps=>by
   show p :: strsOf (ps.map .str)=_
   rw [pb ps]
theorem C1 (hn:∀ y∈ys,cj y=true) {ps:List Str} (h2:ps.length≤4) (nd:ps.Nodup) (hp:∀ p∈ps,p∈ys):Ln (.tup (ps.map .str))=true∧Part (.tup (ps.map .str)):=by
 have e1:(ps.map T.str).all dW=true:=y8.mpr fun t ht=>by
  obtain ⟨x,hx,rfl⟩:=y_.mp ht
  exact (cO hn (hp x hx)).1
 have e2:(ps.map T.str).all gR=true:=y8.mpr fun t ht=>by
  have:=y8.mp e1 t ht
  show (dW t || _)=true
  rw [this,Bool.true_or]
 refine ⟨?_,.inr ⟨_,rfl,by rw [b_]; omega,fun u hu=>?_⟩⟩
 · show ((decide _ && _) && (_ && decide _))=true
   rw [e1,e2,pb,wW nd,b_,decide_eq_true (by omega),decide_eq_true rfl]
   rfl
 · obtain ⟨x,hx,rfl⟩:=y_.mp hu
   exact (cO hn (hp x hx)).2
theorem C2 (hn:∀ y∈ys,cj y=true) {as:List nG} (h2:as.length≤4) (ha:∀ a∈as,cK ys a):Lm (.tup (as.map lL))=true∧Part (.tup (as.map lL)):=by
 refine ⟨?_,.inr ⟨_,rfl,by rw [b_]; omega,fun u hu=>?_⟩⟩
 · show (decide _ && _)=true
   rw [decide_eq_true (by rw [b_]; omega),y9]
   refine y8.mpr fun t ht=>?_
   obtain ⟨x,hx,rfl⟩:=y_.mp ht
   exact (cM hn (ha x hx)).1
 · obtain ⟨x,hx,rfl⟩:=y_.mp hu
   exact (cM hn (ha x hx)).2
def ir (t:T):Prop:=∃ (x:Str) (ps:List T),t = .tup (.str x :: ps)∧ps.length≤4∧(∀ p∈ps,Part p)∧o4 x ps=true
theorem cP {x:Str} {ss:List So} {ps:List T} (hf:kN mw x=some ss) (hl:ps.length=ss.length) (h4:ps.length≤4) (hp:∀ p∈ps,Part p) (hz:(List.zipWith jy ss ps).all id=true):ir (.tup (.str x :: ps)):=by
 refine ⟨x,ps,rfl,h4,hp,?_⟩
 unfold o4
 rw [hf]
 show (decide _ && _)=true
 rw [decide_eq_true hl,hz]
 rfl
theorem iV (hn:∀ y∈ys,cj y=true) {r:Rw} (h:zW ys r):ir (ax r):=by
 cases r with
 | df f ps =>
   obtain ⟨h1,h2,h3,h4⟩:=h
   have a:=cO hn h1
   have b:=C1 hn (by omega) h3 h4
   refine cP (ss:=[.nm,.par]) (by decide +kernel) rfl (by simp) ?_ ?_
   · simp only [Bm,fD,false_implies,implies_true,and_true]; exact ⟨.inl a.2,b.2⟩
   · simp only [Bk,Bl,vP,Bn,jy,a.1,b.1]; rfl
 | give o =>
   have a:=cM hn h
   refine cP (ss:=[.op]) (by decide +kernel) rfl (by simp) ?_ ?_
   · simp only [Bm,fD,false_implies,implies_true,and_true]; exact .inl a.2
   · simp only [Bk,Bl,vP,Bn,jy,a.1]; rfl
 | Ld o =>
   have a:=cM hn h
   refine cP (ss:=[.op]) (by decide +kernel) rfl (by simp) ?_ ?_
   · simp only [Bm,fD,false_implies,implies_true,and_true]; exact .inl a.2
   · simp only [Bk,Bl,vP,Bn,jy,a.1]; rfl
 | Ew o =>
   have a:=cM hn h
   refine cP (ss:=[.op]) (by decide +kernel) rfl (by simp) ?_ ?_
   · simp only [Bm,fD,false_implies,implies_true,and_true]; exact .inl a.2
   · simp only [Bk,Bl,vP,Bn,jy,a.1]; rfl
 | put x o =>
   have a:=cO hn h.1
   have b:=cM hn h.2
   refine cP (ss:=[.nm,.op]) (by decide +kernel) rfl (by simp) ?_ ?_
   · simp only [Bm,fD,false_implies,implies_true,and_true]; exact ⟨.inl a.2,.inl b.2⟩
   · simp only [Bk,Bl,vP,Bn,jy,a.1,b.1]; rfl
 | Gi x o op o2 =>
   have a:=cO hn h.1
   have b:=cM hn h.2.1
   have c:=C0 h.2.2.1
   have d:=cM hn h.2.2.2
   refine cP (ss:=[.nm,.op,.rk,.op]) (by decide +kernel) rfl (by simp) ?_ ?_
   · simp only [Bm,fD,false_implies,implies_true,and_true]; exact ⟨.inl a.2,.inl b.2,.inl c.2,.inl d.2⟩
   · simp only [Bk,Bl,vP,Bn,jy,a.1,b.1,c.1,d.1]; rfl
 | new x =>
   have a:=cO hn h
   refine cP (ss:=[.nm]) (by decide +kernel) rfl (by simp) ?_ ?_
   · simp only [Bm,fD,false_implies,implies_true,and_true]; exact .inl a.2
   · simp only [Bk,Bl,vP,Bn,jy,a.1]; rfl
 | fail x =>
   have a:=cO hn h
   refine cP (ss:=[.nm]) (by decide +kernel) rfl (by simp) ?_ ?_
   · simp only [Bm,fD,false_implies,implies_true,and_true]; exact .inl a.2
   · simp only [Bk,Bl,vP,Bn,jy,a.1]; rfl
 | get x r k =>
   have a:=cO hn h.1
   have b:=cO hn h.2.1
   have c:=u4 hn h.2.2
   refine cP (ss:=[.nm,.nm,.key]) (by decide +kernel) rfl (by simp) ?_ ?_
   · simp only [Bm,fD,false_implies,implies_true,and_true]; exact ⟨.inl a.2,.inl b.2,.inl c.2⟩
   · simp only [Bk,Bl,vP,Bn,jy,a.1,b.1,c.1]; rfl
 | set r k o =>
   have a:=cO hn h.1
   have b:=u4 hn h.2.1
   have c:=cM hn h.2.2
   refine cP (ss:=[.nm,.key,.op]) (by decide +kernel) rfl (by simp) ?_ ?_
   · simp only [Bm,fD,false_implies,implies_true,and_true]; exact ⟨.inl a.2,.inl b.2,.inl c.2⟩
   · simp only [Bk,Bl,vP,Bn,jy,a.1,b.1,c.1]; rfl
 | call x f as =>
   have a:=cO hn h.1
   have b:=cO hn h.2.1
   have c:=C2 hn (mD h.2.2.1 (by decide)) h.2.2.2
   refine cP (ss:=[.nm,.nm,.ops]) (by decide +kernel) rfl (by simp) ?_ ?_
   · simp only [Bm,fD,false_implies,implies_true,and_true]; exact ⟨.inl a.2,.inl b.2,c.2⟩
   · simp only [Bk,Bl,vP,Bn,jy,a.1,b.1,c.1]; rfl
 | _=>exact cP (ss:=[]) (by decide +kernel) rfl (by decide) (by simp) rfl
end
end fH
namespace Gen
open PySem L2 VT
def wd:Rw→Str
 | .df _ _=>"def"
 | .give _=>"give"
 | .put _ _=>"put"
 | .Gi _ _ _ _=>"do"
 | .new _=>"new"
 | .get _ _ _=>"get"
 | .set _ _ _=>"set"
 | .call _ _ _=>"call"
 | .fail _=>"fail"
 | .Ld _=>"if"
 | .OS=>"else"
 | .Ew _=>"while"
 | .fin=>"end"
 | .skip=>"skip"
def gS (st:List Str) (x:Str):Bool:=match st.getLast? with
 | none=>p_ (.str x) [.str "def",.str "skip"]
 | some l=>if x="give" then decide (l="def") else if x="else" then decide (l="if") else if x="end" then !decide (l="def") else !decide (x="def")
def kb (st:List Str) (x:Str):List Str :=
 if x="def"∨x="if"∨x="while" then st ++ [x] else if x="give"∨x="end" then st.dropLast else if x="else" then st.dropLast ++ [("else" : Str)] else st
theorem kQ (x:Str):∀ l:List Str,p_ (.str x) (l.map .str)=decide (x∈l)
 | []=>by simp [p_]
 | y :: l=>by
   rw [jr]
   show (eqT (.str y) (.str x) || p_ (.str x) (l.map .str))=_
   rw [kQ x l]
   show (decide (y=x) || decide (x∈l))=_
   rw [Hv]
   simp only [Bool.or_eq_true,decide_eq_true_eq,dS]
   constructor
   · rintro (h | h)
     · exact .inl h.symm
     · exact .inr h
   · rintro (h | h)
     · exact .inl h.symm
     · exact .inr h
theorem nH (r:Rw):∃ l,ax r = .tup (.str (wd r) :: l):=by cases r <;> exact ⟨_,rfl⟩
theorem eG {α:Type} {f:α→T} {xs:List α} {h:FG} {g:FS} {d:HV} {ρ:En} (Pv:Nat→En→Prop) (h0:Pv 0 ρ) (hs:∀ (i:Nat) x ρ',xs[i]?=some x→Pv i ρ'→h (.tup [.int (i:Int),f x]) ρ' fun ρ2=>g { nx:=Pv (i+1),ct:=Pv (i+1),bk:=d.nx,rt:=d.rt } ρ2)
 (hd:∀ ρ',Pv xs.length ρ'→d.nx ρ'):q_ (ml (xs.map f)) h g d ρ:=⟨Pv,h0,fun i t ρ' e p=>by
   unfold ml at e
   rw [List.getElem?_mapIdx,k9] at e
   cases q:xs[i]? with
   | none=>rw [q] at e; cases e
   | some x=>rw [q] at e; cases e; exact hs i x ρ' q p,fun ρ' p=>hd ρ' (by unfold ml at p; rw [List.length_mapIdx,b_] at p; exact p)⟩
def Gz (o:Option (List Str)) (r:Rw):Option (List Str):=o.bind fun st=>if gS st (wd r)=true then some (kb st (wd r)) else none
def zZ (o:Option (List Str)) (rs:List Rw):Option (List Str):=rs.foldl Gz o
theorem yL (o:Option (List Str)) (a b:List Rw):zZ o (a ++ b)=zZ (zZ o a) b:=List.foldl_append
theorem u5 (rs:List Rw):zZ none rs=none:=by
 induction rs with
 | nil=>rfl
 | cons r rs ih=>exact ih
theorem z6 {st:List Str} {r:Rw} (h:gS st (wd r)=true):Gz (some st) r=some (kb st (wd r)):=by
 show (if gS st (wd r)=true then _ else _)=_
 rw [if_pos h]
theorem GA {st:List Str} {r:Rw} (h:gS st (wd r)=true):zZ (some st) [r]=some (kb st (wd r)):=z6 h
theorem C3 {rs:List Rw} {st:List Str} (h:zZ (some []) rs=some st) (i:Nat) {r:Rw} (hr:rs[i]?=some r) :
  ∃ s,zZ (some []) (rs.take i)=some s∧gS s (wd r)=true∧zZ (some []) (rs.take (i+1))=some (kb s (wd r)):=by
 have hi:=(gh.mp hr).1
 have e:rs=rs.take i ++ (r :: rs.drop (i+1)):=by
  have hg:=(gh.mp hr).2
  rw [← hg,List.getElem_cons_drop,List.take_append_drop]
 have e2:rs.take (i+1)=rs.take i ++ [r]:=by
  have hg:=(gh.mp hr).2
  rw [← hg,List.take_append_getElem]
 rw [e,yL] at h
 cases hs:zZ (some []) (rs.take i) with
 | none =>
   rw [hs,u5] at h
   cases h
 | some s =>
   rw [hs] at h
   have h':zZ (Gz (some s) r) (rs.drop (i+1))=some st:=h
   cases hm:gS s (wd r) with
   | false =>
     have:Gz (some s) r=none:=by show (if gS s (wd r)=true then _ else _)=_; rw [hm]; rfl
     rw [this,u5] at h'
     cases h'
   | true=>exact ⟨s,rfl,hm,by rw [e2,yL,hs]; exact GA hm⟩
def Hd (x:Str):Prop:=x="if"∨x="while"∨x="else"
theorem Hd.ne {x:Str} (h:Hd x):x≠"def":=by rcases h with rfl | rfl | rfl <;> decide +kernel
def qa:List (Str×Nat)→Str→Option Nat
 | [],_=>none
 | (k,i) :: l,f=>if k=f then some i else qa l f
theorem sV (l m:List (Str×Nat)) (f:Str):qa (l ++ m) f=match qa l f with
  | some i=>some i
  | none=>qa m f:=by
 induction l with
 | nil=>rfl
 | cons p l ih =>
   obtain ⟨k,i⟩:=p
   simp only [List.cons_append,qa]
   by_cases h:k=f
   · rw [if_pos h,if_pos h]
   · rw [if_neg h,if_neg h]; exact ih
def Lw (l:List (Str×Nat)) (i:Nat):Rw→List (Str×Nat)
 | .df f _=>match qa l f with
   | some _=>l
   | none=>l ++ [(f,i)]
 | _=>l
def bc (rs:List Rw):Nat→List (Str×Nat)
 | 0=>[]
 | n+1=>match rs[n]? with
   | some r=>Lw (bc rs n) n r
   | none=>bc rs n
theorem pd {rs:List Rw} {f:Str} {j:Nat}:∀ n,qa (bc rs n) f=some j→j < n∧∃ ps,rs[j]?=some (.df f ps)
 | 0,h=>nomatch h
 | n+1,h=>by
   have old:qa (bc rs n) f=some j→j < n+1∧∃ ps,rs[j]?=some (.df f ps):=fun h=>by
    have:=pd n h
    exact ⟨by omega,this.2⟩
   simp only [bc] at h
   split at h
   · rename_i r hr
     cases r with
     | df g ps =>
       simp only [Lw] at h
       split at h
       · exact old h
       · rename_i hn
         rw [sV] at h
         split at h
         · rename_i i hi
           cases h
           exact old hi
         · simp only [qa] at h
           split at h
           · rename_i e
             cases h
             subst e
             exact ⟨by omega,ps,hr⟩
           · cases h
     | _=>exact old h
   · exact old h
theorem l0 {rs:List Rw} {f:Str} {i:Nat} {ps:List Str} (hi:rs[i]?=some (.df f ps)):∀ n,i < n→∃ j,qa (bc rs n) f=some j
 | 0,h=>absurd h (by omega)
 | n+1,h=>by
   simp only [bc]
   by_cases e:i=n
   · subst e
     rw [hi]
     simp only [Lw]
     cases ha:qa (bc rs i) f with
     | some j=>exact ⟨j,ha⟩
     | none =>
       refine ⟨i,?_⟩
       simp only
       rw [sV,ha]
       simp only [qa,if_true]
   · obtain ⟨j,hj⟩:=l0 hi n (by omega)
     split
     · rename_i r hr
       cases r with
       | df g qs =>
         simp only [Lw]
         split
         · exact ⟨j,hj⟩
         · rw [sV,hj]; exact ⟨j,rfl⟩
       | _=>exact ⟨j,hj⟩
     · exact ⟨j,hj⟩
structure sW (rs:List Rw):Prop where
 un:∀ (i i':Nat) (f:Str) (ps T_:List Str),rs[i]?=some (Rw.df f ps)→rs[i']?=some (Rw.df f T_)→i=i'
 ca:∀ (i:Nat) (x f:Str) (as:List nG),rs[i]?=some (Rw.call x f as)→∃ (j:Nat) (ps:List Str),i < j∧rs[j]?=some (Rw.df f ps)∧ps.length=as.length
theorem sW.first {rs:List Rw} (h:sW rs) {i:Nat} {f:Str} {ps:List Str} (hi:rs[i]?=some (.df f ps)):qa (bc rs rs.length) f=some i:=by
 obtain ⟨j,hj⟩:=l0 hi rs.length (gh.mp hi).1
 obtain ⟨_,qs,hq⟩:=pd _ hj
 rw [hj,h.un j i f qs ps hq hi]
end Gen
namespace VT
open PySem PySem.Spec PyProof.Rows L2
section
variable {X:Cx}
end
section
variable {X:Cx} {Z:Zc} {a b:Expr} {fa fb:FE} {pos:Pos}
end
section
variable {X:Cx} {Z:Zc}
def Ua:FS:=fun _ _=>False
theorem j0 {st:Stmt}:VS X Z st Ua:=.mk fun tm pins s σ H D I ⟨_,_,_,_,h,_⟩=>h.elim
theorem GB:Be X "dict.setdefault" (fun x xs H Q=>∃ (a:Addr) (aZ:List (Key×V)) (k:Key) (v:V),x = .ref a∧xs=[kV k,v]∧H a=some (.dK aZ)∧aZ.length < sizeLine ∧
  (∀ u,iB aZ k=some u→Q u H)∧(iB aZ k=none→Q v (upd H a (.dK (L2.putK aZ k v))))):=by
 intro pins s σ H x xs v us Q I rx rs h
 obtain ⟨a,aZ,k,y,rfl,rfl,ha,pY,q1,q2⟩:=h
 cases rx
 obtain ⟨u1,u2,rfl,XD,V1⟩:∃ u1 u2,us=[u1,u2]∧RelV (kV k) u1∧RelV y u2:=by
  cases rs with
  | cons r1 t=>cases t with
    | cons r2 t2=>cases t2; exact ⟨_,_,rfl,r1,r2⟩
 obtain ⟨z,hd,vs,rel,dd⟩:=OL I.bC ha
 refine call_meetsIn PySem.F.slot_dict_setdefault dd.typeIs PySem.F.entry_dict_setdefault (PySem.F.args_dict_setdefault_3 _ _ _) (kt_meets_setdefault (bB X.prog X.w) a (uI XD) hd u2) ⟨vs,dd,by rw [← rel.length]; omega,fun v0 hv=>?_,fun hn h' Ik hs=>?_⟩
 · have wz:=rel.val k
   rw [hv] at wz
   cases e:iB aZ k with
   | none=>rw [e] at wz; cases wz
   | some w0 =>
     rw [e] at wz
     have hr:RelV w0 v0:=wz
     exact ⟨w0,H,I.tok _,hr,q1 w0 e⟩
 · have wz:=rel.val k
   rw [hn] at wz
   cases e:iB aZ k with
   | some w0=>rw [e] at wz; cases wz
   | none =>
     have he:∃ q,h'.get? a=some q:=let ⟨q,_,_,hq,_⟩:=Ik; ⟨q,hq⟩
     have hl:(L2.putK aZ k y).length≤sizeLine:=by have:=uH aZ k y; omega
     exact ⟨y,_,Gb (t':=s.toks+1) I (by rw [ha]; exact True.intro) hs he (K9 hl hd (rel.put k V1) Ik),V1,q2 e⟩
end
section
variable {X:Cx} {Z:Zc} {e1 e2:Expr} {f1 f2:FE} {apos bf:Pos}
def Iq (n:Nat) (f1 f2:FE):FX:=fun ρ Q=>match ρ[n]? with
 | some (some (.dk ks ts,true))=>f1 ρ fun x=>f2 ρ fun y=>match zJ x with
   | some k=>ts.length < 16777216∧match fQ ks ts k with
     | some t=>Q ρ (.vw t)
     | none=>Q (ρ.set n (some (.dk (ks ++ [k]) (ts ++ [y]),true))) (.vw y)
   | none=>False
 | _=>False
theorem GC (n:Nat) {x:Str} {p:Pos} (h1:VE X Z e1 f1) (h2:VE X Z e2 f2)
  (hN:X.N[n]?=some x:=by rfl) (hv:rR X.env.scope x:=by first | exact Or.inl rfl | exact Or.inr (Or.inl rfl) | exact Or.inr (Or.inr rfl)) (hd:gg x:=by decide)
  (iA:tZ x:=by decide) (eJ:attributeBase (.Name x p) "setdefault" X.env (eval (.Name x p) X.env)=eval (.Name x p) X.env:=by rfl)
  (nS:((backTo bf (starEach [e1,e2] X.env)).all (fun x=>!x.1) && (backToKw bf (keywordEach [] X.env)).all (fun x=>x.1.isSome)
    && decide (([e1,e2]:List Expr).length+([]:List Keyword).length+(if ([]:List Keyword).isEmpty then 0 else 1) < 30))=true:=by rfl)
  (eM:(apos.endLine == bf.line)=true:=by rfl) (hs:starEach [e1,e2] X.env=(false,eval e1 X.env) :: starEach [e2] X.env:=by rfl) (tW:starEach [e2] X.env=(false,eval e2 X.env) :: starEach [] X.env:=by rfl)
  (eO:(backTo bf (starEach [e2] X.env)).any (·.1)=false:=by rfl) :
  VX X Z (.Call (.Attribute (.Name x p) "setdefault" apos) [e1,e2] [] bf) (Iq n f1 f2):=.mk fun tm =>
 PE.weak (ub RH PySem.F.slot_dict_setdefault PySem.F.type_dict_setdefault GB (cQ hN hv hd iA) (bu (h1 tm) (bu (h2 tm) cR tW) hs) eJ nS eM hs eO) fun σ H Q ⟨ρ,O,q,I,hf,kk⟩=>by
  unfold Iq at hf
  split at hf
  · rename_i ks ts e0
    obtain ⟨l,g1,g2,xs,hl,g3,g4⟩:=I.root e0
    have ha:l∈av Z O:=mz _ (aN.mpr (mY g1))
    refine ⟨.ref l,g2,.inr (.inr (.inl ⟨rfl,.inl ⟨_,g3⟩⟩)),ρ,O,_,I,hf,fun t ht v H1 s1 a1=>⟨ρ,O,_,I.same s1,ht,fun y hy w H2 s2 a2=>?_⟩⟩
    split at hy
    · rename_i MH ek
      obtain ⟨hlen,hy⟩:=hy
      have ev:v=kV MH:=sL (.inl a1) ek
      subst ev
      have hz:(ks.zip xs).length < sizeLine:=by
       rw [sizeLine_eq,List.length_zip,hl,Nat.min_self,g4.length]
       omega
      have J:=(I.same s1).same s2
      have b4:=(g4.same s1).same s2
      refine ⟨l,ks.zip xs,MH,w,rfl,rfl,s2 _ _ (s1 _ _ g3),hz,fun u hu=>?_,fun hn=>?_⟩
      · rw [eV] at hu
        cases eg:fQ ks ts MH with
        | none=>rw [(gP b4).2 eg] at hu; cases hu
        | some t0 =>
          rw [eg] at hy
          obtain ⟨v0,e1,e2⟩:=(gP b4).1 t0 eg
          rw [e1] at hu
          cases hu
          exact kk _ _ hy O _ _ ⟨J,e2⟩
      · rw [eV] at hn
        cases eg:fQ ks ts MH with
        | some t0 =>
          obtain ⟨v0,e1,e2⟩:=(gP b4).1 t0 eg
          rw [e1] at hn
          cases hn
        | none =>
          rw [eg] at hy
          have e1:L2.putK (ks.zip xs) MH w=(ks ++ [MH]).zip (xs ++ [w]):=by
           rw [Cr _ (by rw [eV]; exact hn),List.zip_append hl]
           rfl
          rw [e1]
          refine kk _ _ hy O _ _ ⟨J.wrote e0 g1 ⟨xs ++ [w],by simp [hl],aU,?_⟩,a2.wrote ha (s2 _ _ (s1 _ _ g3)) rfl⟩
          exact (b4.append (aG.cons a2 aG.nil)).wrote ha (s2 _ _ (s1 _ _ g3)) rfl
    · exact hy.elim
  · exact hf.elim
end
end VT
namespace fH
open PySem L2 VT Gen ym
abbrev bQ:Stmt:=top 31
abbrev gT:Stmt:=top 32
abbrev bV:Stmt:=top 33
abbrev iW:Stmt:=top 34
abbrev gp:Stmt:=top 35
abbrev cc:Stmt:=top 36
abbrev gU:Stmt:=top 37
abbrev dP:Stmt:=top 38
structure z7 (w:World) (K:PySem.W.Frag) (mg:Str→Option Value):Prop where
 rD:∃ t,mg "MOST_ROWS" = some (.int 60 t)
 GD:∃ a,mg "OPENERS" = some (.ref a)∧∀ H,dw K H a [.str "def",.str "if",.str "while"]
 GF:∃ a,mg "CLOSERS" = some (.ref a)∧∀ H,dw K H a [.str "give",.str "end"]
 list:mg "list" = none
 len:mg "len" = none
 enumerate:mg "enumerate" = none
structure Acc (rs:List Rw):Prop where
 n:rs.length≤60
 g:∀ r∈rs,ir (ax r)
 b:zZ (some []) rs=some []
 d:sW rs
def Lx (ts:List T) (q:Rt→Prop):Prop:=∃ (st:List Str) (x:Str),ts=[.lst (st.map .str),.str x]∧q (.vw (.bl (gS st x)))
def Ub:GT:=fun ts q=>∃ (st:List Str) (x:Str),ts=[.lst (st.map .str),.str x]∧st.length≤1000∧gS st x=true∧q [.lst ((kb st x).map .str)] (.vw .bh)
def wX (ts:List T) (q:Rt→Prop):Prop:=∃ rs:List Rw,ts=[.lst (rs.map ax)]∧(∀ r∈rs,ir (ax r))∧q (.vw .bh)
def iX (ts:List T) (q:Rt→Prop):Prop:=∃ rs:List Rw,ts=[.lst (rs.map ax)]∧rs.length≤60∧zZ (some []) rs=some []∧q (.vw .bh)
def GG (l:List (Str×Nat)):T:=.dk (l.map fun p=>(Sum.inr p.1:Key)) (l.map fun p=>T.int (p.2:Int))
def wY (ts:List T) (q:Rt→Prop):Prop:=∃ rs:List Rw,ts=[.lst (rs.map ax)]∧rs.length≤60∧q (.fr (GG (bc rs rs.length)))
def u6 (ts:List T) (q:Rt→Prop):Prop:=∃ (rs:List Rw) (l:List (Str×Nat)) (i:Nat) (x f:Str) (as:List nG) (j:Nat) (ps:List Str),ts=[.lst (rs.map ax),GG l,.int (i:Int)]∧rs[i]?=some (Rw.call x f as)∧qa l f=some j∧i≤j∧rs[j]?=some (Rw.df f ps)∧ps.length=as.length∧q (.vw (.bl true))
def kR (ts:List T) (q:Rt→Prop):Prop:=∃ rs:List Rw,ts=[.lst (rs.map ax)]∧rs.length≤60∧sW rs∧q (.vw .bh)
def nI (ts:List T) (q:Rt→Prop):Prop:=∃ rs:List Rw,ts=[.lst (rs.map ax)]∧Acc rs∧q (.fr (.lst (rs.map ax)))
theorem nJ {rs:List Rw} {i:Nat} {r:Rw} (h:rs[i]?=some r):ju (rs.map ax) (i:Int)=some (ax r):=au (by rw [k9,h]; rfl)
theorem pe (l:List (Str×Nat)) (f:Str):fQ (l.map fun p=>(Sum.inr p.1:Key)) (l.map fun p=>T.int (p.2:Int)) (Sum.inr f)=(qa l f).map fun i=>T.int (i:Int):=by
 induction l with
 | nil=>rfl
 | cons p l ih =>
   obtain ⟨k,i⟩:=p
   simp only [jr,fQ,qa]
   by_cases h:k=f
   · rw [if_pos h,if_pos (by rw [h])]; rfl
   · rw [if_neg h,if_neg (fun z=>h (Sum.inr.inj z))]; exact ih
theorem pf (rs:List Rw):∀ n,(bc rs n).length≤n
 | 0=>du _
 | n+1=>by
   have:=pf rs n
   simp only [bc]
   split
   · rename_i r _
     cases r <;> simp only [Lw] <;> first
      | omega
      | (split <;> simp <;> omega)
   · omega
section
variable {P:Program} {w:World} {K:PySem.W.Frag} {mg:Str→Option Value} {base:Heap}
abbrev u7:List Str:=["opened","word"]
theorem kS:aI u7 ["opened","word"] (aj iW):=L2.gI
theorem sX {f:Addr} {fd:FuncData} (D:Df K mg "may_stand" iW ["opened","word"] f fd) (M:z7 w K mg):bW P w K mg base "may_stand" ["opened","word"] 1 (bS K 2 Lx):=by
 refine D.ji (jU D.F kS rfl fun bD A outer s H E Ox hr ts q hG=>?_)
 have nd:=kS.nd
 have hu:=bp.fz hr
 refine ⟨_,(af (aL (br hu (VP.vr (aE aA aB (by rfl) M.len gC (ak (aa 0) aw))) (VP.vr ag))
    (ah (aD (VP.vx (Ia (aa 1) (VP.vr (aX (ae (VP.ve ao) (ae (VP.ve ao) ai))))))))
    ay)
   (af (aL (br hu (aa 1) (VP.vr ao))
     (ah (aD (VP.vx (ik hu (VP.vr (aQ (aa 0) (VP.vr (dZ (VP.vr ag))))) (VP.vr ao)))))
     ay)
   (af (aL (br hu (aa 1) (VP.vr ao))
     (ah (aD (VP.vx (ik hu (VP.vr (aQ (aa 0) (VP.vr (dZ (VP.vr ag))))) (VP.vr ao)))))
     ay)
   (af (aL (br hu (aa 1) (VP.vr ao))
     (ah (aD (VP.vx (yn hu (VP.vr (aQ (aa 0) (VP.vr (dZ (VP.vr ag))))) (VP.vr ao)))))
     ay)
   (ah (aD (VP.vx (yn hu (aa 1) (VP.vr ao))))))))),fun _=>?_⟩
 obtain ⟨st,x,rfl,hq⟩:=hG
 rcases M6 st with e | ⟨s0,l,e⟩
 · subst e
   exact ⟨small (by simp),rfl,rfl,hq⟩
 · rw [List.concat_eq_append] at e
   have hl:((st.map T.str).length:Int)≠0:=by rw [e]; simp; omega
   have ex:ju (st.map T.str) (-1)=some (T.str l):=by rw [e,pX]; exact nR _ _
   unfold gS at hq
   rw [e,List.getLast?_concat] at hq
   refine dH (c:=decide (((st.map T.str).length:Int)=0)) (decide_eq_false hl) ?_
   have fS:q (.vw (.bl (if x="give" then decide (l="def") else if x="else" then decide (l="if") else if x="end" then !decide (l="def") else !decide (x="def")))):=hq
   refine bP (fun h=>?_) (fun h=>?_)
   · rw [if_pos h] at fS; exact ⟨_,ex,fS⟩
   · rw [if_neg h] at fS
     refine bP (fun h=>?_) (fun h=>?_)
     · rw [if_pos h] at fS; exact ⟨_,ex,fS⟩
     · rw [if_neg h] at fS
       refine bP (fun h=>?_) (fun h=>?_)
       · rw [if_pos h] at fS; exact ⟨_,ex,fS⟩
       · rw [if_neg h] at fS; exact fS
abbrev sY:List Str:=["program","place","row"]
theorem jF:aI sY ["program"] (aj gT):=L2.gI
theorem qC {f:Addr} {fd:FuncData} (D:Df K mg "check_rows" gT ["program"] f fd) (M:z7 w K mg) (C4:bW P w K mg base "is_row" ["row"] 5 (bS K 1 O5)):bW P w K mg base "check_rows" ["program"] 6 (bS K 1 wX):=by
 obtain ⟨O8,MI,C5,C6,C7,C8⟩:=C4
 refine D.ji (jU D.F jF rfl fun bD A outer s H E Ox hr ts q hG=>?_)
 have nd:=jF.nd
 have np:∀ {i:Nat},aY ⟨H,[],Ox⟩ i:=ka
 refine ⟨_,(ah (cF x8 rfl (jg (by rfl) M.enumerate (aq 0)) (gO (n:=2) rfl (bx (aW (i:=1) nd rfl (Or.inl rfl) np) (bx (aW (i:=2) nd rfl (Or.inl rfl) np) eA)))
   (ah (aL (c_ (cS (aM C8 (hr.mono (by decide)) (by rfl) C5 C6 C7 (ae (aq 2) ai))))
     (ah j0)
     ay)))),fun _=>?_⟩
 obtain ⟨rs,rfl,hg,hq⟩:=hG
 refine eG (fun i ρ=>∃ b1 b2,ρ=[some (.lst (rs.map ax),false),b1,b2]) ⟨_,_,rfl⟩ ?_ ?_
 · rintro i r ρ hr ⟨b1,b2,rfl⟩
   obtain ⟨x,ps,ex,V2,XE,XG⟩:=hg r (mY hr)
   refine ⟨rfl,rfl,rfl,x,ps,by rw [← ex],by omega,XE,?_⟩
   rw [XG]
   exact ⟨_,_,rfl⟩
 · rintro ρ ⟨b1,b2,rfl⟩
   exact hq
abbrev l6:List Str:=["opened","word"]
theorem ph:aI l6 ["opened","word"] (aj gp):=L2.gI
theorem wZ {f:Addr} {fd:FuncData} (D:Df K mg "go_past" gp ["opened","word"] f fd) (M:z7 w K mg):bW P w K mg base "go_past" ["opened","word"] 1 (qo K [true,false] Ub):=by
 refine D.ji (Tg D.F ph rfl fun bD A outer s H E as Ox hr ts q hl hG=>?_)
 have nd:=ph.nd
 have hu:=bp.fz hr
 obtain ⟨aO,mO,hO⟩:=M.GD
 obtain ⟨aC,mC,hC⟩:=M.GF
 have z8:∀ {pos},VP (dB iK P w K mg base l6 "go_past" (aj gp) f bD A outer s H E).ni ⟨H,pz [true,false] as 0,Ox⟩ (.Name "OPENERS" pos) (fC (.tup [.str "def",.str "if",.str "while"])):=ei (by rfl) mO (v:=.ref aO) rfl fun H A=>bz (hO H) (aG.cons bZ (aG.cons bZ (aG.cons bZ aG.nil)))
 have z9:∀ {pos},VP (dB iK P w K mg base l6 "go_past" (aj gp) f bD A outer s H E).ni ⟨H,pz [true,false] as 0,Ox⟩ (.Name "CLOSERS" pos) (fC (.tup [.str "give",.str "end"])):=ei (by rfl) mC (v:=.ref aC) rfl fun H A=>bz (hC H) (aG.cons bZ (aG.cons bZ aG.nil))
 refine ⟨_,(ah (aL (uC (aa 1) (VP.vr z8))
    (ah (a_ (dy 0 t5 t6 bg ba (ae (aq 1) ai))))
    (ah (aL (uC (aa 1) (VP.vr z9))
      (ah (a_ (B2 0 PySem.F.slot_list_pop PySem.F.type_list_pop BI yt)))
      (ah (aL (br hu (aa 1) (VP.vr ao))
        (ah (n9 0 (VP.ve ao) (VP.vr (dZ (VP.vr ag)))))
        ay)))))),?_⟩
 obtain ⟨st,x,rfl,hl,hm,hq⟩:=hG
 have e1:p_ (.str x) [.str "def",.str "if",.str "while"]=decide (x="def"∨x="if"∨x="while"):=by
  have:=kQ x ["def","if","while"]
  rw [show ([.str "def",.str "if",.str "while"]:List T)=(["def","if","while"]:List Str).map .str from rfl,this]
  simp
 have e2:p_ (.str x) [.str "give",.str "end"]=decide (x="give"∨x="end"):=by
  have:=kQ x ["give","end"]
  rw [show ([.str "give",.str "end"]:List T)=(["give","end"]:List Str).map .str from rfl,this]
  simp
 unfold kb at hq
 refine ⟨rfl,rfl,?_⟩
 rw [e1]
 refine bP (fun h=>?_) (fun h=>?_)
 · rw [if_pos h] at hq
   refine ⟨(by rw [sizeLine_eq,b_]; omega),?_⟩
   show q [.lst (st.map .str ++ [.str x])] _
   rw [pX] at hq
   exact hq
 · rw [if_neg h] at hq
   refine ⟨rfl,rfl,?_⟩
   rw [e2]
   have ne:(x="give"∨x="end")∨x="else"→∃ s0 l,st=s0 ++ [l]:=fun hx=>by
    rcases M6 st with e | ⟨s0,l,e⟩
    · subst e
      exfalso
      rcases hx with (rfl | rfl) | rfl <;> exact absurd hm (by decide +kernel)
    · exact ⟨s0,l,by rw [e,Rv]⟩
   refine bP (fun h2=>?_) (fun h2=>?_)
   · rw [if_pos h2] at hq
     obtain ⟨s0,l,rfl⟩:=ne (.inl h2)
     refine ⟨rfl,.str l,by simp,?_⟩
     show q [.lst (((s0 ++ [l]).map T.str).dropLast)] _
     rw [List.dropLast_concat] at hq
     rw [pX]
     show q [.lst ((s0.map T.str ++ [T.str l]).dropLast)] _
     rw [List.dropLast_concat]
     exact hq
   · rw [if_neg h2] at hq
     refine bP (fun h3=>?_) (fun h3=>?_)
     · rw [if_pos h3] at hq
       obtain ⟨s0,l,rfl⟩:=ne (.inr h3)
       have F9:((s0 ++ [l]).map T.str).length=s0.length+1:=by simp
       refine ⟨s0.length,?_,?_⟩
       · unfold vK
         rw [F9,if_neg (by decide),if_pos (by omega)]
         congr 1
         omega
       · show q [.lst (((s0 ++ [l]).map T.str).set s0.length (T.str "else"))] _
         rw [List.dropLast_concat] at hq
         have e3:((s0 ++ [l]).map T.str).set s0.length (T.str "else")=(s0 ++ [("else" : Str)]).map T.str:=by simp
         rw [e3]
         exact hq
     · rw [if_neg h3] at hq
       exact hq
abbrev e_:List Str:=["program","opened","place","row"]
theorem b8:aI e_ ["program"] (aj bV):=L2.gI
theorem iu {f:Addr} {fd:FuncData} (D:Df K mg "check_blocks" bV ["program"] f fd) (M:z7 w K mg) (iY:bW P w K mg base "may_stand" ["opened","word"] 1 (bS K 2 Lx)) (l7:bW P w K mg base "go_past" ["opened","word"] 1 (qo K [true,false] Ub)):bW P w K mg base "check_blocks" ["program"] 3 (bS K 1 iX):=by
 obtain ⟨u9,sZ,iZ,i0,i4,i5⟩:=iY
 obtain ⟨z_,w6,l8,l9,l_,ma⟩:=l7
 refine D.ji (jU D.F b8 rfl fun bD A outer s H E Ox hr ts q hG=>?_)
 have nd:=b8.nd
 have np:∀ {i:Nat},aY ⟨H,[],Ox⟩ i:=ka
 refine ⟨_,(af (dC (i:=1) nd rfl (Or.inl rfl) (VP.vx (bL ai)) np)
   (af (cF x8 rfl (jg (by rfl) M.enumerate (aq 0)) (gO (n:=2) rfl (bx (aW (i:=2) nd rfl (Or.inl rfl) np) (bx (aW (i:=3) nd rfl (Or.inl rfl) np) eA)))
     (af (aL (c_ (cS (eS i5 (hr.mono (by decide)) (by rfl) iZ i0 i4 (ak (aa 1) (ak (VP.vr (aQ (aa 3) (VP.vr ag))) aw)))))
       (ah j0)
       ay)
     (ah (a_ (oi ma (hr.mono (by decide)) (by rfl) l8 l9 l_ (nB 1 (iQ (VP.ve (aQ (aa 3) (VP.vr ag))) sr)))))))
   (ah (aL (q9 (VP.vr (aE aA aB (by rfl) M.len gC (ak (aa 1) aw))) (VP.vr ag))
     (ah j0)
     ay)))),fun _=>?_⟩
 obtain ⟨rs,rfl,hn,hb,hq⟩:=hG
 refine ⟨kd _,?_⟩
 refine eG (fun i ρ=>∃ b2 b3 st,ρ=[some (.lst (rs.map ax),false),some (.lst (st.map .str),true),b2,b3]∧zZ (some []) (rs.take i)=some st∧st.length≤i) ⟨_,_,[],rfl,rfl,kd _⟩ ?_ ?_
 · rintro i r ρ hr ⟨b2,b3,st,rfl,hs,hl⟩
   have hi:=(gh.mp hr).1
   obtain ⟨s',e1,hm,e2⟩:=C3 hb i hr
   rw [hs] at e1
   cases e1
   obtain ⟨l,el⟩:=nH r
   rw [el]
   refine ⟨rfl,rfl,_,au (j:=0) rfl,rfl,st,wd r,rfl,?_⟩
   rw [hm]
   refine ⟨rfl,_,au (j:=0) rfl,st,wd r,rfl,by omega,hm,?_⟩
   refine ⟨_,_,kb st (wd r),rfl,e2,?_⟩
   unfold kb
   split
   · rw [mf]; simp; omega
   · split
     · rw [Hs]; omega
     · split
       · rw [mf,Hs]; simp
         cases st with
         | nil=>rename_i z; rw [z] at hm; exact absurd hm (by decide +kernel)
         | cons a t=>simp at hl ⊢; omega
       · omega
 · rintro ρ ⟨b2,b3,st,rfl,hs,_⟩
   rw [Mq,hb] at hs
   cases hs
   exact hq
abbrev s_:List Str:=["program","firsts","place","row"]
theorem jG:aI s_ ["program"] (aj gU):=L2.gI
theorem qD {f:Addr} {fd:FuncData} (D:Df K mg "first_defs" gU ["program"] f fd) (M:z7 w K mg):bW P w K mg base "first_defs" ["program"] 1 (bS K 1 wY):=by
 refine D.ji (jU D.F jG rfl fun bD A outer s H E Ox hr ts q hG=>?_)
 have nd:=jG.nd
 have hu:=bp.fz hr
 have np:∀ {i:Nat},aY ⟨H,[],Ox⟩ i:=ka
 refine ⟨_,(af (dC (i:=1) nd rfl (Or.inl rfl) (VP.vx Gg) np)
   (af (cF x8 rfl (jg (by rfl) M.enumerate (aq 0)) (gO (n:=2) rfl (bx (aW (i:=2) nd rfl (Or.inl rfl) np) (bx (aW (i:=3) nd rfl (Or.inl rfl) np) eA)))
     (ah (aL (br hu (VP.vr (aQ (aa 3) (VP.vr ag))) (VP.vr ao))
       (ah (a_ (GC 1 (VP.ve (aQ (aa 3) (VP.vr ag))) (aq 2))))
       ay)))
   (ah (aD (gN 1 np))))),fun _=>?_⟩
 obtain ⟨rs,rfl,hn,hq⟩:=hG
 refine eG (fun i ρ=>∃ b2 b3,ρ=[some (.lst (rs.map ax),false),some (GG (bc rs i),true),b2,b3]) ⟨_,_,rfl⟩ ?_ ?_
 · rintro i r ρ hr ⟨b2,b3,rfl⟩
   have hi:=(gh.mp hr).1
   have hlen:((bc rs i).map fun p=>T.int (p.2:Int)).length < 16777216:=by
    rw [b_]; have:=pf rs i; omega
   have es:bc rs (i+1)=Lw (bc rs i) i r:=by simp only [bc,hr]
   cases r with
   | df g ps =>
     refine ⟨rfl,rfl,_,au (j:=0) rfl,?_⟩
     refine ⟨_,au (j:=1) rfl,hlen,?_⟩
     rw [es]
     simp only [Lw]
     rw [pe]
     cases ha:qa (bc rs i) g with
     | some j=>exact ⟨_,_,rfl⟩
     | none =>
       show ∃ b2 b3,_=[_,some (GG (bc rs i ++ [(g,i)]),true),b2,b3]
       have ef:GG (bc rs i ++ [(g,i)]) = .dk (((bc rs i).map fun p=>(Sum.inr p.1:Key)) ++ [Sum.inr g]) (((bc rs i).map fun p=>T.int (p.2:Int)) ++ [T.int (i:Int)]):=by
        simp only [GG,pX,jr,Hy]
       rw [ef]
       exact ⟨_,_,rfl⟩
   | _ =>
     refine ⟨rfl,rfl,_,au (j:=0) rfl,?_⟩
     rw [es]
     exact ⟨_,_,rfl⟩
 · rintro ρ ⟨b2,b3,rfl⟩
   exact hq
abbrev j4:List Str:=["program","firsts","place","row","first"]
theorem dX:aI j4 ["program","firsts","place"] (aj dP):=L2.gI
theorem mx {f:Addr} {fd:FuncData} (D:Df K mg "may_call" dP ["program","firsts","place"] f fd) (M:z7 w K mg):bW P w K mg base "may_call" ["program","firsts","place"] 1 (bS K 3 u6):=by
 refine D.ji (jU D.F dX rfl fun bD A outer s H E Ox hr ts q hG=>?_)
 have nd:=dX.nd
 have hu:=bp.fz hr
 have np:∀ {i:Nat},aY ⟨H,[],Ox⟩ i:=ka
 have vL:=yH hu
 refine ⟨_,(af (aP (i:=3) nd rfl (Or.inl rfl) (VP.vx (aQ (aa 0) (aa 2))) np)
  (af (aP (i:=4) nd rfl (Or.inl rfl) (VP.vx (Cw vL (aa 1) (VP.vr (aQ (aa 3) (VP.vr ag))) ⟨rfl,rfl,rfl,rfl⟩)) np)
  (af (aL (VW.vc (iM (uD (aa 4) (VP.vr gK)) (fO (iP (aa 4) (aa 2)))))
    (ah (aD (VP.vx jC)))
    ay)
  (ah (aD (VP.vx (ik hu (VP.vr (aE aA aB (by rfl) M.len gC (ak (VP.vr (aQ (VP.vr (aQ (aa 0) (aa 4))) (VP.vr ag))) aw))) (VP.vr (aE aA aB (by rfl) M.len gC (ak (VP.vr (aQ (aa 3) (VP.vr ag))) aw)))))))))),fun _=>?_⟩
 obtain ⟨rs,l,i,x,g,as,j,ps,rfl,hi,ha,Fo,hj,hl,hq⟩:=hG
 refine ⟨_,nJ hi,_,au (j:=2) rfl,?_⟩
 have ex:=pe l g
 rw [ha] at ex
 dsimp only [Rt.t,zJ]
 rw [ex]
 refine dH (c:=decide ((j:Int) < (i:Int))) (decide_eq_false (by omega)) ?_
 refine ⟨_,nJ hj,_,au (j:=2) rfl,_,au (j:=3) rfl,?_⟩
 show q (.vw (.bl (decide (((ps.map T.str).length:Int)=((as.map lL).length:Int)))))
 rw [b_,b_,decide_eq_true (by omega)]
 exact hq
abbrev fU:List Str:=["program","firsts","place","row"]
theorem cw:aI fU ["program"] (aj cc):=L2.gI
theorem i6 {f:Addr} {fd:FuncData} (D:Df K mg "check_calls" cc ["program"] f fd) (M:z7 w K mg) (gW:bW P w K mg base "first_defs" ["program"] 1 (bS K 1 wY)) (j5:bW P w K mg base "may_call" ["program","firsts","place"] 1 (bS K 3 u6)):bW P w K mg base "check_calls" ["program"] 3 (bS K 1 kR):=by
 obtain ⟨tf,qF,gY,gZ,g6,g7⟩:=gW
 obtain ⟨w_,u_,j6,j7,j8,j9⟩:=j5
 refine D.ji (jU D.F cw rfl fun bD A outer s H E Ox hr ts q hG=>?_)
 have nd:=cw.nd
 have hu:=bp.fz hr
 have np:∀ {i:Nat},aY ⟨H,[],Ox⟩ i:=ka
 have vL:=yH hu
 refine ⟨_,(af (aP (i:=1) nd rfl (Or.inl rfl) (VP.vx (aM g7 (hr.mono (by decide)) (by rfl) gY gZ g6 (ae (aq 0) ai))) np)
   (ah (cF x8 rfl (jg (by rfl) M.enumerate (aq 0)) (gO (n:=2) rfl (bx (aW (i:=2) nd rfl (Or.inl rfl) np) (bx (aW (i:=3) nd rfl (Or.inl rfl) np) eA)))
     (af (aL (VW.vc (c9 (br hu (VP.vr (aQ (aa 3) (VP.vr ag))) (VP.vr ao)) (cy (kx hu (VP.vr (Cv vL (aa 1) (VP.vr (aQ (aa 3) (VP.vr ag))))) (aa 2)))))
       (ah j0)
       ay)
     (ah (aL (VW.vc (c9 (br hu (VP.vr (aQ (aa 3) (VP.vr ag))) (VP.vr ao)) (cy (c_ (cS (aM j9 (hr.mono (by decide)) (by rfl) j6 j7 j8 (ae (aq 0) (ae (aq 1) (ae (aq 2) ai)))))))))
       (ah j0)
       ay)))))),fun _=>?_⟩
 obtain ⟨rs,rfl,hn,hd,hq⟩:=hG
 refine ⟨rfl,rs,rfl,hn,?_⟩
 refine eG (fun i ρ=>∃ b2 b3,ρ=[some (.lst (rs.map ax),false),some (GG (bc rs rs.length),false),b2,b3]) ⟨_,_,rfl⟩ ?_ ?_
 · rintro i r ρ hr ⟨b2,b3,rfl⟩
   cases r with
   | df g ps =>
     refine ⟨rfl,rfl,_,au (j:=0) rfl,_,au (j:=1) rfl,?_⟩
     have ex:=pe (bc rs rs.length) g
     rw [hd.first hr] at ex
     exact ⟨_,ex,dH (c:=!decide ((i:Int)=(i:Int))) (by simp) ⟨_,au (j:=0) rfl,_,_,rfl⟩⟩
   | call x g as =>
     obtain ⟨j,ps,Fo,hj,hl⟩:=hd.ca i x g as hr
     refine ⟨rfl,rfl,_,au (j:=0) rfl,_,au (j:=0) rfl,rfl,rs,_,i,x,g,as,j,ps,rfl,hr,hd.first hj,by omega,hj,hl,?_⟩
     exact ⟨_,_,rfl⟩
   | _=>exact ⟨rfl,rfl,_,au (j:=0) rfl,_,au (j:=0) rfl,_,_,rfl⟩
 · rintro ρ ⟨b2,b3,rfl⟩
   exact hq
abbrev dn:List Str:=["rows","program"]
theorem cN:aI dn ["rows"] (aj bQ):=L2.gI
theorem jH {f:Addr} {fd:FuncData} (D:Df K mg "program_of" bQ ["rows"] f fd) (M:z7 w K mg) (g8:bW P w K mg base "check_rows" ["program"] 6 (bS K 1 wX)) (ff:bW P w K mg base "check_blocks" ["program"] 3 (bS K 1 iX)) (fW:bW P w K mg base "check_calls" ["program"] 3 (bS K 1 kR)):bW P w K mg base "program_of" ["rows"] 7 (bS K 1 nI):=by
 obtain ⟨tq,qG,g9,g_,hU,hV⟩:=g8
 obtain ⟨pj,mV,fg,fj,fm,fq⟩:=ff
 obtain ⟨qH,pk,fY,fZ,f_,gb⟩:=fW
 refine D.ji (jU D.F cN rfl fun bD A outer s H E Ox hr ts q hG=>?_)
 have nd:=cN.nd
 have np:∀ {i:Nat},aY ⟨H,[],Ox⟩ i:=ka
 obtain ⟨tM,mM⟩:=M.rD
 have i7:∀ {pos},VP (dB iK P w K mg base dn "program_of" (aj bQ) f bD A outer s H E).ni ⟨H,[],Ox⟩ (.Name "MOST_ROWS" pos) (fC (.int 60)):=ei (by rfl) mM (v:=.int 60) ⟨_,rfl⟩ fun _ _=>bE
 refine ⟨_,(af (dC (i:=1) nd rfl (Or.inl rfl) (VP.vx (eE d9 gM (by rfl) M.list sG (ak (aa 0) aw))) np)
  (af (aL (q9 (VP.vr (aE aA aB (by rfl) M.len gC (ak (aa 1) aw))) (VP.vr i7))
    (ah j0)
    ay)
  (af (a_ (VP.vx (eS hV (hr.mono (by decide)) (by rfl) g9 g_ hU (ak (aa 1) aw))))
  (af (a_ (VP.vx (eS fq (hr.mono (by decide)) (by rfl) fg fj fm (ak (aa 1) aw))))
  (af (a_ (VP.vx (eS gb (hr.mono (by decide)) (by rfl) fY fZ f_ (ak (aa 1) aw))))
  (ah (aD (gN 1 np)))))))),fun _=>?_⟩
 obtain ⟨rs,rfl,hA,hq⟩:=hG
 have hn:=hA.n
 have hl:((rs.map ax).length:Int)=(rs.length:Int):=by rw [b_]
 refine dH (c:=decide ((60:Int) < ((rs.map ax).length:Int))) (decide_eq_false (by omega)) ?_
 exact ⟨rfl,rs,rfl,hA.g,rfl,rfl,rs,rfl,hA.n,hA.b,rfl,rfl,rs,rfl,hA.n,hA.d,rfl,hq⟩
end
end fH
namespace Gen
open PySem L2 VT
def brk (st:List Str):List Rw→Nat→Option Nat
 | [],i=>if st=[] then none else some i
 | r :: rs,i=>if gS st (wd r)=true then brk (kb st (wd r)) rs (i+1) else some i
theorem yM {α:Type} {l:List α} {i:Nat} {x:α} (h:l[i]?=some x):l.drop i=x :: l.drop (i+1):=by
 obtain ⟨hi,e⟩:=gh.mp h
 rw [← e]; exact (RA hi)
def va (rs:List Rw) (i:Nat) (f:Str) (as:List nG):Bool:=match qa (bc rs rs.length) f with
 | none=>false
 | some j=>if j < i then false else match rs[j]? with
   | some (.df _ ps)=>decide (ps.length=as.length)
   | _=>false
theorem Aa {rs:List Rw} {i:Nat} {f:Str} {as:List nG} (h:qa (bc rs rs.length) f=none):va rs i f as=false:=by unfold va; rw [h]
theorem Ab {rs:List Rw} {i j:Nat} {f g:Str} {ps:List Str} {as:List nG} (h:qa (bc rs rs.length) f=some j) (hj:rs[j]?=some (.df g ps)):va rs i f as=if j < i then false else decide (ps.length=as.length):=by
 unfold va
 rw [h]
 dsimp only
 rw [hj]
theorem rE {c:Bool} {A B:Prop} (hc:c=true) (h:A):if c=true then A else B:=by rw [if_pos hc]; exact h
def dQ (rs:List Rw) (i:Nat):Bool:=match rs[i]? with
 | some (.df g _)=>!decide (qa (bc rs rs.length) g=some i)
 | some (.call _ f as)=>!va rs i f as
 | _=>false
def i8 (rs:List Rw):Option Nat:=(List.range rs.length).find? (dQ rs)
theorem xa {rs:List Rw} {i:Nat} (hi:i < rs.length) (h:∀ j < i,dQ rs j=false) (hw:dQ rs i=true):i8 rs=some i:=by
 unfold i8
 rw [List.find?_range_eq_some]
 exact ⟨hw,Ei.mpr hi,fun j hj=>by rw [h j hj]; rfl⟩
theorem xb {rs:List Rw} (h:∀ j < rs.length,dQ rs j=false):i8 rs=none:=by
 unfold i8
 rw [List.find?_eq_none]
 intro j hj
 rw [h j (Ei.mp hj)]; simp
theorem GH {st:List Str} {x:Str} (h:gS st x=true):(kb st x).length≤st.length+1:=by
 unfold kb
 split
 · rw [mf]; simp
 · split
   · rw [Hs]; omega
   · split
     · rw [mf,Hs]; simp
     · omega
end Gen
namespace EX
open PySem PySem.Spec PySem.Calls PyProof.Rows L2
def Flt (h:Heap) (e C:Addr) (dd T:Option Addr) (fl:Value):Prop :=
 ∃ oe vs,h.get? e=some oe∧oe.cls = .ref C∧oe.dict=dd∧oe.data = .fields vs∧1 < vs.size ∧
  match T with
  | none=>vs[1]?=some .none
  | some a=>vs[1]?=some (.ref a)∧a≠e∧∃ oT ts,h.get? a=some oT∧oT.data = .fields ts∧ts[3]?=some fl
structure Kp (fs:List Addr) (e:Addr) (T:Option Addr) (h h':Heap):Prop where
 keep:∀ b o,h.get? b=some o→b≠e→T≠some b→b∉fs→h'.get? b=some o
 slot:∀ b o,h.get? b=some o→b∈fs→b≠e→T≠some b→∃ sl,h'.get? b=some { o with slots:=sl }
theorem Kp.any {fs:List Addr} {e:Addr} {T:Option Addr} {h h':Heap} (k:Kp fs e T h h') {b:Addr} {o:Obj} (q:h.get? b=some o) (h1:b≠e) (h2:T≠some b):∃ sl,h'.get? b=some { o with slots:=sl }:=by
 by_cases z:b∈fs
 · exact k.slot b o q z h1 h2
 · exact ⟨o.slots,k.keep b o q h1 h2 z⟩
theorem Kp.trans {fs:List Addr} {e:Addr} {T T':Option Addr} {h h1 h2:Heap} (a:Kp fs e T h h1) (b:Kp fs e T' h1 h2) (hT:∀ c,T'=some c→h.get? c=none∨T=some c):Kp fs e T h h2 where
 keep:=fun c o q n1 n2 n3=>b.keep c o (a.keep c o q n1 n2 n3) n1 (fun z=>by rcases hT c z with y | y; rw [q] at y; cases y; exact n2 y) n3
 slot:=fun c o q n1 n2 n3=>by
  obtain ⟨sl,q1⟩:=a.slot c o q n1 n2 n3
  obtain ⟨ye,q2⟩:=b.slot c _ q1 n1 n2 (fun z=>by rcases hT c z with y | y; rw [q] at y; cases y; exact n3 y)
  exact ⟨ye,q2⟩
theorem GI (o:Obj) (f:Array Value→Array Value):(o.mapFields f).dict=o.dict:=by
 obtain ⟨c,d,da,sl⟩:=o
 cases da <;> rfl
section
variable {M:Model} {A:Around} {E:Value→Shared→Prop} {s:Shared} {e C L:Addr} {dd T:Option Addr} {fl:Value} {base:Heap} {env:Env} {outer:List Env}
theorem Flt.EN {h:Heap} {l:List Env} (F:Flt h e C dd T fl) (hl:h.FunFrames base l):e∉ke l∧∀ a,T=some a→a∉ke l:=by
 obtain ⟨oe,vs,he,hc,hd,Ac,pY,hT⟩:=F
 refine ⟨fun z=>?_,fun a ea z=>?_⟩
 · obtain ⟨_,o,ho,hn⟩:=hl.mem z
   rw [he] at ho
   cases ho
   exact hn vs Ac
 · subst ea
   obtain ⟨_,_,oT,ts,GJ,Ey,_⟩:=hT
   obtain ⟨_,o,ho,hn⟩:=hl.mem z
   rw [GJ] at ho
   cases ho
   exact hn ts Ey
theorem vb {head:Value} {hn:Bool} {oe:Obj} {vs:Array Value} {Q:Unit→Shared→Prop} (Ez:A.frames=some (env :: outer)) (hl:s.heap.FunFrames base (env :: outer)) (hf:env.frame=some L)
  (he:s.heap.get? e=some oe) (hc:oe.cls = .ref C) (hd:oe.dict=dd) (Ac:oe.data = .fields vs) (pY:1 < vs.size)
  (h:∀ h' T',Flt h' e C dd (some T') (rawInt L)→s.heap.get? T'=none→Kp (ke (env :: outer)) e none s.heap h'→Q () { s with heap:=h' }) :
  wpAny M A (do let a ← frameOf env; let pl ← entryPlaceOf L hn; let b ← EntryCells.newEntry head a .none (rawInt L) .none pl; setField (.ref e) 1 b) Q E s:=by
 have ne:e∉ke (env :: outer):=fun z=>by
  obtain ⟨_,o,ho,q⟩:=hl.mem z
  rw [he] at ho
  cases ho
  exact q vs Ac
 refine wpAny_bind (wpAny_frameOf_fun Ez hl hf fun h1 so=>?_)
 refine wpAny_bind (wpAny_entryPlaceOf fun pl fM=>?_)
 unfold EntryCells.newEntry newFields
 refine wpAny_bind (wpAny_newObj_type ?_ (fM.sizeOk5 _ _ _ _ _))
 have e1:h1.get? e=some oe:=(so.2.1 e ne).trans he
 generalize hx:([head,Value.ref L,.none,rawInt L,.none] ++ (if pl.isEmpty then List.replicate 6 Value.none else pl))=xs
 have x3:xs.toArray[3]?=some (rawInt L):=by rw [← hx]; simp
 have e2:(h1.push ⟨.type "traceback",none,.fields xs.toArray,#[]⟩).get? e=some oe:=cY _ e1
 refine wpAny_setField e2 Ac pY ?_
 have nT:h1.objs.size≠e:=A_ (dq e1)
 have d3:=IT Ac (·.setIfInBounds 1 (Value.ref h1.objs.size))
 refine h _ h1.objs.size ⟨_,_,IS _ e2 (M0 d3),(Obj.cls_mapFields _ _).trans hc,?_,d3,by simp [pY],by simp [pY],nT,⟨.type "traceback",none,.fields xs.toArray,#[]⟩,xs.toArray,?_,rfl,x3⟩ (M7 (by rw [so.1]; exact du _)) ⟨fun b o q n1 _ n3=>?_,fun b o q n1 n2 _=>?_⟩
 · rw [← hd]; exact GI _ _
 · rw [Hr _ _ (Ne.symm nT)]; exact m9 h1 rfl
 · rw [Hr _ _ (Ne.symm n1)]; exact cY _ ((so.2.1 b n3).trans q)
 · obtain ⟨sl,q2⟩:=so.2.2 b o q
   exact ⟨sl,by rw [Hr _ _ (Ne.symm n2)]; exact cY _ q2⟩
theorem yN {Q:Unit→Shared→Prop} (Ez:A.frames=some (env :: outer)) (hl:s.heap.FunFrames base (env :: outer)) (hf:env.frame=some L) (F:Flt s.heap e C dd T .none)
  (h:∀ h' T',Flt h' e C dd (some T') (rawInt L)→s.heap.get? T'=none→Kp (ke (env :: outer)) e T s.heap h'→Q () { s with heap:=h' }):wpAny M A (noteFrame (.ref e) env) Q E s:=by
 have nf:=F.EN hl
 obtain ⟨oe,vs,he,hc,hd,Ac,pY,hT⟩:=F
 unfold noteFrame
 simp only [hf]
 cases T with
 | none =>
   refine wpAny_bind (wpAny_field he Ac hT ?_)
   rw [if_neg (by decide)]
   exact vb Ez hl hf he hc hd Ac pY h
 | some a =>
   obtain ⟨h1,ne,oT,ts,GJ,Ey,h3⟩:=hT
   refine wpAny_bind (wpAny_field he Ac h1 ?_)
   rw [if_pos (by simp)]
   refine wpAny_bind (wpAny_field GJ Ey h3 ?_)
   rw [if_neg (by simp [rawInt])]
   refine wpAny_bind (wpAny_setField GJ Ey (Ry.mp h3).1 ?_)
   have Ir:∀ b,b≠a→(s.heap.update a (Obj.mapFields (·.setIfInBounds 3 Value.none))).get? b=s.heap.get? b:=fun b hb=>Hr _ _ (Ne.symm hb)
   have O9:=hl.of_keeps (h':=s.heap.update a (Obj.mapFields (·.setIfInBounds 3 Value.none))) fun b o q nn=>⟨o,(Ir b fun z=>by subst z; rw [GJ] at q; cases q; exact nn ts Ey).trans q,rfl⟩
   refine vb (s:={ s with heap:=s.heap.update a (Obj.mapFields (·.setIfInBounds 3 Value.none)) }) Ez O9 hf ((Ir e (Ne.symm ne)).trans he) hc hd Ac pY fun h' T' f n k=>h h' T' f ?_ ⟨fun b o q n1 n2 n3=>?_,fun b o q n1 n2 n3=>?_⟩
   · cases q:s.heap.get? T' with
     | none=>rfl
     | some o =>
       by_cases z:T'=a
       · subst z
         have:=IS (Obj.mapFields (·.setIfInBounds 3 Value.none)) GJ (M0 (IT Ey _))
         rw [this] at n
         cases n
       · rw [Ir T' z,q] at n; cases n
   · have nb:b≠a:=fun z=>n2 (by rw [z])
     exact k.keep b o ((Ir b nb).trans q) n1 (fun z=>by cases z) n3
   · have nb:b≠a:=fun z=>n3 (by rw [z])
     exact k.slot b o ((Ir b nb).trans q) n1 n2 (fun z=>by cases z)
theorem tu {Q:Unit→Shared→Prop} {a:Addr} (F:Flt s.heap e C dd (some a) fl) (h:∀ h',Flt h' e C dd (some a) .none→Kp [] e (some a) s.heap h'→Q () { s with heap:=h' }):wpAny M A (setFlight (.ref e) none) Q E s:=by
 obtain ⟨oe,vs,he,hc,hd,Ac,pY,h1,ne,oT,ts,GJ,Ey,h3⟩:=F
 have z3:=(Ry.mp h3).1
 unfold setFlight
 refine wpAny_bind (wpAny_field he Ac h1 ?_)
 rw [if_pos (by simp)]
 refine wpAny_setField GJ Ey z3 ?_
 have Ir:∀ (f:Obj→Obj) b,b≠a→(s.heap.update a f).get? b=s.heap.get? b:=fun f b hb=>Hr _ _ (Ne.symm hb)
 refine h _ ⟨oe,vs,(Ir _ e (Ne.symm ne)).trans he,hc,hd,Ac,pY,h1,ne,_,_,IS _ GJ (M0 (IT Ey _)),IT Ey _,by simp [z3]⟩
  ⟨fun b o q n1 n2 _=>(Ir _ b fun z=>n2 (by rw [z])).trans q,fun b o q n1 _ _=>absurd n1 (by simp)⟩
theorem C9 {Q:Unit→Shared→Prop} (Ez:A.frames=some (env :: outer)) (hl:s.heap.FunFrames base (env :: outer)) (hf:env.frame=some L) (F:Flt s.heap e C dd T .none)
  (h:∀ h' T',Flt h' e C dd (some T') .none→s.heap.get? T'=none→Kp (ke (env :: outer)) e T s.heap h'→Q () { s with heap:=h' }):wpAny M A (leaving env (.ref e)) Q E s:=by
 unfold leaving
 refine wpAny_bind (yN Ez hl hf F fun h1 T' f n k=>?_)
 refine tu f fun h2 f2 k2=>h h2 T' f2 n (k.trans ⟨fun b o q n1 n2 _=>k2.keep b o q n1 n2 (by simp),fun b o q _ n2 n3=>⟨o.slots,k2.keep b o q n2 n3 (by simp)⟩⟩ fun c z=>.inl (by cases z; exact n))
end
end EX
namespace EX
open PySem PySem.Spec PySem.Calls PyProof.Rows L2
open PySem.W (findIn typeIn clsIn subIn looks_findIn looks_typeIn looks_subIn looks_clsIn Looks InstAt lookIn findObj)
abbrev EA:List Value:=[.type "ValueError",.type "Exception",.type "BaseException",.type "object"]
abbrev XH (nm q:Str) (C N:Addr) (bs bm:List Value) (sn:List Str) (sub:List Value) (ab:Bool) (col:Option Bool) (dd:Option Addr) (k0 k1 k2 k3 k5:Option Value):Obj:=excClassObj nm q C N bs bm true sn sub ab col dd k0 k1 k2 k3 k5 "ValueError.__new__"
structure XC (K:PySem.W.Frag) (C:Addr) (tl:List Addr):Prop where
 obj:∃ nm q N bs sn sub ab col dd k0 k1 k2 k3 k5,K.lookup C=some (XH nm q C N bs (tl.map .ref ++ EA) sn sub ab col dd k0 k1 k2 k3 k5)
 tail:∀ a∈tl,∃ c dd cd sl o es ep,K.lookup a=some ⟨c,dd,.cls cd,sl⟩∧K.lookup cd.ns=some o∧o.data = .dict es ep∧StrKeys es∧nsFind es "__init__" = none
theorem pq {K:PySem.W.Frag} {h:Heap} (X:K.In h):∀ {tl:List Addr},(∀ a∈tl,∃ c dd cd sl o es ep,K.lookup a=some ⟨c,dd,.cls cd,sl⟩∧K.lookup cd.ns=some o∧o.data = .dict es ep∧StrKeys es∧nsFind es "__init__" = none)→OwnTail h EA (tl.map .ref ++ EA)
 | [],_=>.base
 | a :: tl,q=>by
   obtain ⟨c,dd,cd,sl,o,es,ep,h1,h2,h3,h4,h5⟩:=q a jz
   exact .own (X _ _ h1) ⟨o,es,ep,X _ _ h2,h3,h4,fun _=>rfl⟩ h5 (pq X fun b hb=>q b (jc _ hb))
section
variable {prog:Program} {w:World} {A:Around} {E:Value→Shared→Prop} {h:Heap} {g:Array GenState} {d:Drawn} {t:Nat} {os:OsState} {K:PySem.W.Frag} {C fI:Addr} {tl:List Addr} {rest:List Value}
theorem xg {Q:PySem.Fin→Shared→Prop} (X:K.In h) (xc:XC K C tl) (hi:findIn K (.ref C) "__init__" = some (some (.ref fI))) (ht:typeIn K (.ref fI)=some (.type "function"))
  (hq:∀ h' e,Heap.MadeExcOf h h' e (.ref C) rest→wpAny (model prog w) A (call (.ref fI) (.ref e :: rest)) (fun r s'=>r = .none∧Q (.done (.ret (.ref e))) s') E ⟨h',g,d,t,os⟩) (hr:rest.length≤sizeLine) :
  wpAny (model prog w) A (Builtin.«type.__call__» ⟨.ref C :: rest,[]⟩) Q E ⟨h,g,d,t,os⟩:=by
 obtain ⟨nm,q,N,bs,sn,sub,ab,col,dd,k0,k1,k2,k3,k5,oK⟩:=xc.obj
 have oC:=X _ _ oK
 have T:=pq X xc.tail
 repeat (first | with_reducible refine wpAny_loadPart_at oC ?_ | with_reducible refine wpAny_madeBy_exc oC ?_ | wp_step)
 refine codeAny_call_builtin_code (QJ _ QF.quiet) (wpAny_check_new_subT QF T oC ?_)
 refine codeAny_exc_new_subT QF T oC ?_ hr
 show wpAny _ _ _ _ _ _
 generalize V3:(⟨.type "tuple",none,.seq rest.toArray 0,#[]⟩:Obj)=tp
 generalize O_:(⟨.ref C,none,.fields #[.ref h.objs.size,.none,.none,.none,.bool false,.none],#[]⟩:Obj)=oe
 have kk:∀ b o,h.get? b=some o→((h.push tp).push oe).get? b=some o:=fun b o q=>cY _ (cY _ q)
 have X1:K.In ((h.push tp).push oe):=fun b o q=>kk b o (X b o q)
 have XI:=X1 _ _ oK
 have Rc:((h.push tp).push oe).get? (h.objs.size+1)=some oe:=by subst O_; heap_get
 have XJ:((h.push tp).push oe).get? h.objs.size=some tp:=by subst V3; exact cY _ (Heap.get?_push_at rfl rfl)
 have XM:(Value.ref C :: (tl.map Value.ref ++ EA)).contains (.ref C)=true:=by simp
 have ec:oe.cls = .ref C:=by subst O_; rfl
 unfold isInstance
 repeat (first | (with_reducible refine wpAny_loadPart_at Rc ?_; rw [ec]) | (with_reducible refine wpAny_isSubtype_exc XI ?_; rw [XM]) | wp_step)
 show wpAny _ _ (typeLookup (.ref C) _) _ _ _
 refine looks_findIn X1 hi _ _ _ _ (fun _ _ z=>z) ?_
 refine wpAny_holding (wpAny_bind (PySem.W.bind_fn X1 _ ht _ _ _ _ (fun _ _ z=>z) ?_))
 refine wpAny_bind (wpAny_mono (hq _ (h.objs.size+1) ⟨kk,M7 (IZ _),h.objs.size,by rw [Rc,← O_],M7 (du _),by rw [XJ,← V3]⟩) (fun r s' z=>?_) fun _ _ z=>z)
 obtain ⟨rfl,z⟩:=z
 wp_walk
 exact z
theorem Ad {Q:Value→Shared→Prop} (X:K.In h) (xc:XC K C tl) (hi:findIn K (.ref C) "__init__" = some (some (.ref fI))) (ht:typeIn K (.ref fI)=some (.type "function"))
  (hq:∀ h' e,Heap.MadeExcOf h h' e (.ref C) rest→wpAny (model prog w) (A.under (.builtin "type.__call__" ⟨.ref C :: rest,[]⟩)) (call (.ref fI) (.ref e :: rest)) (fun r s'=>r = .none∧Q (.ref e) s') E ⟨h',g,d,t,os⟩) (hr:rest.length≤sizeLine) :
  wpAny (model prog w) A (call (.ref C) rest) Q E ⟨h,g,d,t,os⟩:=by
 obtain ⟨nm,q,N,bs,sn,sub,ab,col,dd,k0,k1,k2,k3,k5,oK⟩:=id xc.obj
 have oC:=X _ _ oK
 have l1:=tc_lookup
 have l2:=tc_bind (.ref C)
 have lT:(⟨h,g,d,t,os⟩:Shared).TypeIs (.ref C) "type":=⟨_,oC,rfl⟩
 refine wpAny_call (codeAny_of_tree ?_)
 show wpAny _ _ (callAny (.ref C) _) _ _ _
 repeat (any_goals (first | assumption | with_reducible refine wpAny_loadPart_at oC ?_ | wp_step))
 refine ⟨rfl,?_⟩
 exact codeAny_call_builtin_at (QJ _ (by decide +kernel)) entry_typeCall (wpAny_check_type_call_sub oC (xg X xc hi ht (fun h' e m=>hq h' e m) hr))
end
end EX
namespace EX
open PySem PySem.Spec PySem.Calls PyProof.Rows L2 Builtin Builtin.ObjectAttr
open PySem.W (findIn typeIn clsIn subIn mroIn specialIn takesIn looks_findIn looks_typeIn looks_subIn looks_clsIn looks_mroIn looks_find Looks InstAt lookIn findObj)
structure XF (K:PySem.W.Frag) (C:Addr):Prop where
 ga:findIn K (.ref C) "__getattribute__" = some (some (.builtin "BaseException.__getattribute__"))
 hk:findIn K (.ref C) "__getattr__" = some none
 sa:findIn K (.ref C) "__setattr__" = some (some (.builtin "object.__setattr__"))
 pl:findIn K (.ref C) "place" = some none
 cl:findIn K (.ref C) "__class__" = some (some (.builtin "object.__class__"))
 sub:subIn K (.ref C) (.type "BaseException")=some true
 ob:mroIn K C (.type "object")=some true
 cg:specialIn K (.builtin "object.__class__") "__get__" = some (some (.builtin "getset_descriptor.__get__"))
 ct:takesIn K (.builtin "object.__class__")=some true
section
variable {prog:Program} {w:World} {A:Around} {E:Value→Shared→Prop} {s:Shared} {K:PySem.W.Frag} {C e:Addr} {oe:Obj} {od:Option Obj} {name:Str} {tl:List Addr}
theorem Iu {tk:Tok} {fill expr:Bool} {Q:Value→Shared→Prop} (X:K.In s.heap) (f:XF K C) (I:InstAt s.heap e oe C od)
  (h:wpAny (model prog w) A.in1 (Builtin.«object.__getattribute__» ⟨[.ref e,.str name tk],[]⟩) (fun fin s'=>match fin with | .done (.ret v)=>wpAny (model prog w) A (handedOut v) Q E s' | _=>False) (fun _ _=>False) s) :
  wpAny (model prog w) A (getAttrBy (.ref e) (.str name tk) fill expr) Q E s:=by
 have ex:=F.excAttr_ValueError.ga
 unfold getAttrBy
 refine wpAny_holding (wpAny_bind (I.type.here (wpAny_bind ((looks_findIn X f.ga).here ?_))))
 dsimp only
 have n1:(Value.builtin "BaseException.__getattribute__" == Value.builtin "object.__getattribute__")=false:=by decide +kernel
 rw [show (onTheHeap (Value.ref C) && Value.builtin "BaseException.__getattribute__" == Value.builtin "object.__getattribute__")=false from by rw [n1,Bool.and_false],if_neg (by decide)]
 unfold getAttrByItsOwn
 have hb:Looks (model prog w) s.heap (hookBefore (.ref C)) none:=PySem.W.looks_hook X (by show findIn K (.ref C) "__getattr__" = some none; exact f.hk)
 refine wpAny_bind (hb.here (wpAny_bind (wpAny_attempt (wpAny_holding ?_))))
 unfold callGetattribute
 rw [show (expr && onTheHeap (Value.builtin "BaseException.__getattribute__"))=false from Bool.and_false _,if_neg (by decide)]
 unfold boundAndCalled
 rw [ex.bind]
 refine wpAny_bind (wpAny_pure ?_)
 show wpAny _ _ (call (.builtin "BaseException.__getattribute__") [.ref e,.str name tk]) _ _ _
 refine wpAny_call (codeAny_call_builtin ex.plain F.entry_bexc_ga ?_)
 refine @PySem.W.check_slot (model prog w) _ _ s "BaseException.__getattribute__" "BaseException" "__getattribute__" (.ref e) [.str name tk] [] _ (by decide +kernel) (by decide +kernel) (I.type.andThen (looks_subIn X f.sub)) (F.args_bexc_ga _ _) ?_
 refine wpAny_mono h (fun fin s' z=>?_) fun _ _ z=>z.elim
 rcases fin with (_ | _ | _ | _) | _ <;> first | exact z | exact z.elim
theorem vd {tk:Tok} {r:Found} {Q:PySem.Fin→Shared→Prop} (L:Looks (model prog w) s.heap (find (.ref e) (.ref C) name) r) (I:InstAt s.heap e oe C od)
  (h:wpAny (model prog w) A (match r with | .value v=>ret v | .bind g a=>bindTo g a (.ref e) (.ref C) | .missing=>pure (.done (.ret .none))) Q E s) (hr:r≠.missing) :
  wpAny (model prog w) A (Builtin.«object.__getattribute__» ⟨[.ref e,.str name tk],[]⟩) Q E s:=by
 refine wpAny_bind (wpAny_pure (wpAny_bind (wpAny_pure (wpAny_bind (I.type.here (wpAny_bind (L.here ?_)))))))
 cases r with
 | value v=>exact h
 | bind g a=>exact h
 | missing=>exact absurd rfl hr
theorem Ae {v:Value} {dx:Addr} {mA:Str→Option Value} {expr:Bool} {Q:Value→Shared→Prop} (X:K.In s.heap) (f:XF K C) (hd:(clsIn K C).any (·.hasDict)=true) (he:s.heap.get? e=some oe) (hc:oe.cls = .ref C) (JM:PySem.W.notCls oe=true) (XN:oe.dict=some dx)
  (hn:s.heap.Ns1 dx mA) (hv:mA "place" = some v) (hh:PySem.W.handedIn v=true) (h:Q v { s with toks:=s.toks+1 }):wpAny (model prog w) A (getAttr (.ref e) "place" expr) Q E s:=by
 obtain ⟨oD,es,ep,h1,h2,h3,h4,h5⟩:=id hn
 have I:InstAt s.heap e oe C (some oD):=⟨he,hc,JM,by rw [XN]; exact h1⟩
 obtain ⟨cd,q1,q2⟩:=PySem.W.any_some hd
 have lk:lookIn "place" oD=some (some v):=by
  have q:=h5 "place"
  rw [hv] at q
  unfold nsFind findBy at q
  unfold lookIn
  rw [h2]
  dsimp only
  rw [← Array.find?_toList] at q
  cases z:es.toList.find? (·.key.isStr "place") with
  | none=>rw [z] at q; cases q
  | some en=>rw [z] at q; cases q; rfl
 have hf:findObj K C (some oD) "place" = some (.value v):=by
  unfold findObj PySem.W.ownOf
  rw [q1,Mr,f.pl,Mr]
  simp only [Mr,q2,if_true,lk]
 unfold getAttr
 refine wpAny_bind (wpAny_mkText ?_)
 refine Iu (s:={ s with toks:=s.toks+1 }) X f I ?_
 refine vd (s:={ s with toks:=s.toks+1 }) (looks_find X I hf) I (wpAny_pure ?_) (by intro z; cases z)
 show wpAny _ _ (handedOut v) _ _ _
 rw [PySem.W.handedOut_of hh]; exact wpAny_pure h
theorem get_cls {Q:Option Value→Shared→Prop} (X:K.In s.heap) (f:XF K C) (BN:(clsIn K C).isSome=true) (I:InstAt s.heap e oe C od) (h:Q (some (.ref C)) { s with toks:=s.toks+1 }):wpAny (model prog w) A (getAttr? (.ref e) "__class__") Q E s:=by
 have hf:findObj K C od "__class__" = some (.bind (.builtin "getset_descriptor.__get__") (.builtin "object.__class__")):=by
  obtain ⟨cd,hc⟩:=RC.mp BN
  unfold findObj
  rw [hc,Mr,f.cl,Mr]
  simp only [f.cg,Mr,f.ct]
 unfold getAttr? getAttrBy?
 refine wpAny_bind (wpAny_mkText (wpAny_bind (wpAny_attempt ?_)))
 refine Iu (s:={ s with toks:=s.toks+1 }) X f I ?_
 refine vd (s:={ s with toks:=s.toks+1 }) (looks_find X I hf) I ?_ (by intro z; cases z)
 show wpAny _ _ (holding [_] (call _ [_,.ref e,.ref C]) >>= ret) _ _ _
 refine wpAny_bind (wpAny_holding (wpAny_call (PySem.W.class_get (s:={ s with toks:=s.toks+1 }) X I f.ob ?_)))
 refine wpAny_pure ?_
 show wpAny _ _ (handedOut (.ref C)) _ _ _
 exact wpAny_pure (wpAny_pure h)
end
end EX
namespace EX
open PySem PySem.Spec PySem.Calls PyProof.Rows L2 Builtin Builtin.ObjectAttr
open PySem.W (findIn typeIn clsIn subIn mroIn specialIn takesIn looks_findIn looks_typeIn looks_subIn looks_clsIn looks_mroIn looks_find Looks InstAt lookIn findObj kitOne KitX)
section
variable {K:PySem.W.Frag} {C e:Addr} {oe:Obj} {tl:List Addr}
theorem XC.cls (xc:XC K C tl):∃ cd,clsIn K C=some cd∧cd.hasDict=true∧cd.mro = .ref C :: (tl.map .ref ++ EA):=by
 obtain ⟨nm,q,N,bs,sn,sub,ab,col,dd,k0,k1,k2,k3,k5,oK⟩:=xc.obj
 exact ⟨_,by unfold clsIn; rw [oK],rfl,rfl⟩
theorem C_ (xc:XC K C tl) (f:XF K C):KitX K (.ref e) (.ref C) (fun h=>∃ oe od,InstAt h e oe C od) where
 ty:=fun _ _ _ ⟨_,_,I⟩=>I.type
 it:=fun _ h X _=>by
  obtain ⟨nm,q,N,bs,sn,sub,ab,col,dd,k0,k1,k2,k3,k5,oK⟩:=xc.obj
  intro A' Q' E' s' k q
  unfold isType loadHead
  exact wpAny_bind (wpAny_loadPart (k _ _ (X _ _ oK)) (wpAny_pure q))
 ne:=fun h tp Ik aK n sl X XO=>by
  obtain ⟨nm,q,N,bs,sn,sub,ab,col,dd,k0,k1,k2,k3,k5,oK⟩:=xc.obj
  refine Bool.eq_false_iff.mpr fun z=>?_
  have z:C=tp:=Value.ref.inj (beq_iff_eq.mp z)
  subst z
  have z2:=Option.some.inj ((X _ _ oK).symm.trans XO)
  exact absurd (Value.type.inj (congrArg Obj.cls z2)) (by decide)
 ca:=fun X ⟨_,_,I⟩ k=>get_cls X f (by obtain ⟨cd,z,_⟩:=xc.cls; rw [z]; rfl) I k
variable {prog:Program} {w:World} {A:Around} {E:Value→Shared→Prop} {s:Shared} {od:Option Obj}
theorem GK {c:Value} {b:Bool} {Q:Value→Shared→Prop} (X:K.In s.heap) (xc:XC K C tl) (f:XF K C) (I:InstAt s.heap e oe C od) (hk:kitOne K (.ref C) c=some b) (h:∀ tk,Q (.bool b) { s with toks:=tk }) :
  wpAny (model prog w) A (call (.builtin "isinstance") [.ref e,c]) Q E s :=
 Hw (C_ xc f) X ⟨oe,od,I⟩ hk (by intro z; cases z) h
theorem Af {rest:List Value} {vs:Array Value} {Q:Value→Shared→Prop} (X:K.In s.heap) (xc:XC K C tl) (he:s.heap.get? e=some oe) (hc:oe.cls = .ref C) (hd:oe.data = .fields vs) {t0:Addr} (h0:vs[0]?=some (.ref t0)) (hr:rest.length≤sizeLine)
  (h:∀ h',(∀ b o,b≠e→s.heap.get? b=some o→h'.get? b=some o)→h'.get? e=some (oe.mapFields (·.setIfInBounds 0 (.ref s.heap.objs.size)))→Q .none { s with heap:=h' }) :
  wpAny (model prog w) A (call (.builtin "ValueError.__init__") (.ref e :: rest)) Q E s:=by
 obtain ⟨hp,g,dr,t,os⟩:=s
 dsimp only at X he h
 obtain ⟨nm,q,N,bs,sn,sub,ab,col,dd,k0,k1,k2,k3,k5,oK⟩:=xc.obj
 have oC:=X _ _ oK
 have T:=pq X xc.tail
 have F:=QF
 refine wpAny_call (codeAny_call_builtin F.init.plain F.initEntry (wpAny_check_init_subT F T oC he hc ?_))
 have hz:=(Ry.mp h0).1
 unfold Builtin.«BaseException.__init__»
 repeat (any_goals (first | with_reducible refine wpAny_field (cY _ he) hd h0 ?_ | with_reducible refine wpAny_setField (cY _ he) hd hz ?_ | wp_step))
 refine h _ (fun b o nb q=>?_) ?_
 · rw [Hr _ _ (Ne.symm nb)]; exact cY _ q
 · rw [IS _ (cY _ he) (M0 (IT hd _))]
end
section
variable {prog:Program} {w:World} {A:Around} {E:Value→Shared→Prop} {s:Shared} {K:PySem.W.Frag} {C e:Addr} {oe:Obj} {tl:List Addr}
theorem rF (self:Value):∀ tl:List Addr,refuseLoop self "__setattr__" (tl.map .ref ++ EA)=pure ()
 | []=>F.store_ValueError.passes self
 | a :: tl=>by rw [jr,List.cons_append,refuseLoop_ref]; exact rF self tl
theorem GL {v:Value} {tk:Tok} {vs:Array Value} {R:Result→Shared→Prop} (X:K.In s.heap) (xc:XC K C tl) (f:XF K C) (he:s.heap.get? e=some oe) (hc:oe.cls = .ref C) (hd:oe.data = .fields vs) (hn:oe.dict=none)
  (h:∀ h' Cq,(∀ b o,b≠e→s.heap.get? b=some o→h'.get? b=some o)→h'.get? e=some { oe with dict:=some s.heap.objs.size }→h'.Ns1 s.heap.objs.size (fun y=>if y="place" then some v else none)→R (.ok (.ret .none)) { s with heap:=h',toks:=Cq }) :
  codeAny (model prog w) A (.call (.builtin "object.__setattr__") ⟨[.ref e,.str "place" tk,v],[]⟩) R s:=by
 have SF:=F.store_ValueError
 obtain ⟨cd,q1,q2,q3⟩:=xc.cls
 have I:InstAt s.heap e oe C none:=⟨he,hc,by unfold PySem.W.notCls; rw [hd],by rw [hn]; trivial⟩
 refine codeAny_call_builtin SF.slot.plain SF.entry (@PySem.W.check_slot (model prog w) _ _ s "object.__setattr__" "object" "__setattr__" (.ref e) [.str "place" tk,v] [] _ SF.kind SF.split (I.type.andThen (looks_mroIn X f.ob)) (SF.args (.ref e) (.str "place" tk) v) ?_)
 have lm:Looks (model prog w) s.heap (mroOf (.ref C)) cd.mro:=(looks_clsIn X q1).andThen .now
 rw [PySem.W.osa_eq,refuse_eq]
 refine wpAny_bind (wpAny_bind (I.type.here (wpAny_bind (lm.here ?_))))
 rw [q3,refuseLoop_ref,rF]
 refine wpAny_pure (wpAny_bind (I.type.here (wpAny_bind ((looks_findIn X f.pl).here (wpAny_bind (wpAny_pure ?_))))))
 unfold storeInOwnDict
 refine wpAny_bind (wpAny_pure (wpAny_bind ?_))
 show wpAny _ _ (instanceDict e true) _ _ _
 unfold instanceDict
 obtain ⟨oc,Zs,Zt,yd⟩:=oe
 dsimp only at hc hd hn
 subst hc hd hn
 refine wpAny_bind (wpAny_loadPart he ?_)
 dsimp only
 refine wpAny_bind ((looks_clsIn X q1).here ?_)
 rw [q2]
 obtain ⟨hp,g,dr,t,os⟩:=s
 dsimp only at X he h
 have e1:(hp.push { cls:=.type "dict",data:=.dict #[] }).get? e=some ⟨.ref C,none,.fields vs,yd⟩:=cY _ he
 have ne:e≠hp.objs.size:=gF (dq he)
 refine wpAny_bind (wpAny_alloc' (wpAny_bind (wpAny_update' e1 ?_)))
 refine wpAny_pure ?_
 generalize hu:(hp.push { cls:=.type "dict",data:=.dict #[] }).update e (fun o=>{ o with dict:=some hp.objs.size })=h1
 have g1:h1.get? hp.objs.size=some { cls:=.type "dict",data:=.dict #[] }:=by rw [← hu,Heap.get?_update_ne _ _ _ _ ne.symm]; exact Heap.get?_push_at rfl rfl
 have g2:h1.get? e=some ⟨.ref C,some hp.objs.size,.fields vs,yd⟩:=by rw [← hu]; exact IS _ e1 rfl
 have nd:h1.Ns hp.objs.size (fun _=>none):=⟨_,#[],_,g1,rfl,fun a z=>absurd z (by simp),fun _=>rfl⟩
 show wpAny _ _ (storeInDict hp.objs.size (.str "place" tk) "place" v) _ _ _
 unfold storeInDict newKeyGuard
 refine wpAny_bind (wpAny_pure (wpAny_bind (wpAny_nsSet1 (Heap.Ns1.of_empty nd) fun h' Je sb=>?_)))
 obtain ⟨oD,Zu,Zv,z1,z2,z3⟩:=Je.count (Within.cons "place" v Within.nil)
 refine wpAny_bind (wpAny_lookBehind z1 (by rw [z2]; exact pastItsLine_dict (mD z3 (by rw [IW,List.length_nil,sizeLine_eq]; omega))) ?_)
 refine wpAny_pure (h h' _ (fun b o nb q=>?_) ((sb.2 e ne).trans g2) Je)
 have XQ:b≠hp.objs.size:=gF (dq q)
 refine (sb.2 b XQ).trans ?_
 rw [← hu,Heap.get?_update_ne _ _ _ _ nb]
 exact cY _ q
theorem Ag {v:Value} {vs:Array Value} {Q:Unit→Shared→Prop} (X:K.In s.heap) (xc:XC K C tl) (f:XF K C) (he:s.heap.get? e=some oe) (hc:oe.cls = .ref C) (hd:oe.data = .fields vs) (hn:oe.dict=none)
  (h:∀ h' Cq,(∀ b o,b≠e→s.heap.get? b=some o→h'.get? b=some o)→h'.get? e=some { oe with dict:=some s.heap.objs.size }→h'.Ns1 s.heap.objs.size (fun y=>if y="place" then some v else none)→Q () { s with heap:=h',toks:=Cq }) :
  wpAny (model prog w) A (setAttr (.ref e) "place" v) Q E s:=by
 have I:InstAt s.heap e oe C none:=⟨he,hc,by unfold PySem.W.notCls; rw [hd],by rw [hn]; trivial⟩
 have L:Looks (model prog w) s.heap (specialOf (.ref e) "__setattr__") (some (.builtin "object.__setattr__")):=I.type.andThen (looks_findIn X f.sa)
 unfold setAttr callSpecial?
 refine wpAny_bind (wpAny_mkText (wpAny_bind (wpAny_bind (L.here (s:={ s with toks:=s.toks+1 }) (wpAny_holding ?_)))))
 rw [F.store_ValueError.slot.bind]
 refine wpAny_bind (wpAny_pure (wpAny_bind ?_))
 refine wpAny_call (GL (s:={ s with toks:=s.toks+1 }) (vs:=vs) X xc f he hc hd hn fun h' Cq k1 k2 k3=>?_)
 exact wpAny_pure (wpAny_pure (h h' Cq k1 k2 k3))
end
end EX
namespace EX
open PySem PySem.Spec PySem.Calls PyProof.Rows L2
open PySem.W (findIn typeIn clsIn subIn mroIn specialIn takesIn looks_findIn Looks InstAt)
theorem GN:∀ n:Fin 101,((toString (n.val:Int):String):Str).length≤8:=by decide +kernel
theorem Dd {H:Hp} {a:Addr} {o:HO} (h:H a=some o):upd H a o=H:=by
 funext b
 unfold upd
 split
 · rename_i z; rw [z,h]
 · rfl
section
variable {X:Cx}
def XR (tv:TE):TE:=fun σ H Q=>tv σ H fun v H1=>∃ i:Int,v = .int i∧0≤i∧i≤100∧∀ x,Q (.str x) H1
theorem Iv {a b:Str} {j1 j2:Nat} {p1 p2 p3 p:Pos} {value:Expr} {tv:TE} (hv:PE X value tv) (hl:a.length+b.length≤1000:=by decide +kernel) :
  PE X (.JoinedStr [.Constant (.str a) j1 p1,.FormattedValue value (-1) none p2,.Constant (.str b) j2 p3] p) (XR tv):=by
 intro pins s σ H Q I h
 refine wpAny_JoinedStr ?_
 show Joins _ _ _ [eval (.Constant (.str a) j1 p1) X.env,eval (.FormattedValue value (-1) none p2) X.env,eval (.Constant (.str b) j2 p3) X.env] _ _ _
 refine Calls.Constant_str ⟨a,_,rfl,?_,?_⟩
 · rw [strLen_append]; rw [sizeLine_eq]; show (0:Nat)+_≤_; omega
 refine wpAny_FormattedValue_plain (bT (hv pins _ σ H _ (I.tok _) h) fun u s1 ⟨v,H1,I1,r,i,ev,h0,h1,q⟩=>?_)
 subst ev
 obtain ⟨t,rfl⟩:=r
 have Uc:i.natAbs.log2 < 1920:=by
  have:i.natAbs≤100:=by omega
  exact Nat.lt_of_le_of_lt (Nat.log2_le_self _) (by omega)
 have hi:((toString i:String):Str).length≤8:=by
  have:=GN ⟨i.toNat,by omega⟩
  rw [show ((i.toNat:Nat):Int)=i from Int.toNat_of_nonneg h0] at this
  exact this
 refine wpAny_formatField_int Uc ⟨_,_,rfl,?_,?_⟩
 · rw [strLen_append,strLen_append,sizeLine_eq]; show (0:Nat)+_+_≤_; omega
 refine Calls.Constant_str ⟨b,_,rfl,?_,?_⟩
 · rw [strLen_append,strLen_append,strLen_append,sizeLine_eq]; show (0:Nat)+_+_+_≤_; omega
 refine ⟨?_,.str _,H1,I1.tok _,⟨_,rfl⟩,q _⟩
 rw [strLen_append,strLen_append,strLen_append,sizeLine_eq]; show (0:Nat)+_+_+_≤_; omega
end
abbrev V4 (C:Addr) (dd:Option Addr) (t:Addr):Obj:=⟨.ref C,dd,.fields #[.ref t,.none,.none,.none,.bool false,.none],#[]⟩
def vN (C e:Addr) (dd:Option Addr):Heap→Prop:=fun h=>∃ t,h.get? e=some (V4 C dd t)
theorem De {P:Program} {w:World} {H:Hp} {h:Heap} {C e t:Addr} {dd:Option Addr} (q:h.get? e=some (V4 C dd t)):bM P w H h e (.ext (vN C e dd)) :=
 ⟨⟨t,q⟩,⟨_,q⟩,fun _ _ ⟨t,a⟩ k=>⟨t,k _ a⟩⟩
structure XS (K:PySem.W.Frag) (S:Addr):Prop where
 ga:specialIn K (.ref S) "__getattribute__" = some (some (.builtin "type.__getattribute__"))
 rd:PySem.W.readsIn K S (.type "type")=true
 fi:PySem.W.findCls K (.ref S) (.type "type") "__init__" = some (.val (.builtin "ValueError.__init__"))
theorem pA {fs ex:List Addr} {H H1:Hp} {h h':Heap} {a:Addr} {o:HO} (u:Un fs ex H H1 h h') (n:H1 a=none) (f:h.get? a=none):Un fs ex H (upd H1 a o) h h' where
 keep:=u.keep
 slot:=u.slot
 free:=fun b ob q z x=>by rw [aH (fun e=>by subst e; rw [f] at q; cases q)]; exact u.free b ob q z x
 there:=u.there
 iw:=fun b xs q=>by have:=u.iw b xs q; rw [aH (aV this n)]; exact this
 gG:=fun b ob xs q=>by have:=u.gG b ob xs q; rw [aH (aV this n)]; exact this
 iy:=fun b ps q=>by obtain ⟨m,this⟩:=u.iy b ps q; exact ⟨m,by rw [aH (aV this n)]; exact this⟩
theorem md {P:Program} {w:World} {H:Hp} {h:Heap} {a:Addr} {o:HO} (ok:jt P w H h) (n:H a=none) (new:bM P w (upd H a o) h a o):jt P w (upd H a o) h:=fun b u q=>by
 by_cases e:b=a
 · subst e; rw [aU] at q; cases q; exact new
 · rw [aH e] at q
   exact (ok b u q).mF (fun _ _ _ z=>z) (fun c z=>by rw [aH (aV z n)]; exact z) fun c xs z=>by rw [aH (aV z n)]; exact z
section
variable {X:Cx} {C S:Addr} {tl:List Addr}
def Ly (C:Addr) (ta:TA):TE:=fun σ H Q=>ta σ H fun vs H1=>∃ e x,vs=[.ref e,.str x]∧H1 e=some (.ext (vN C e none))∧Q .bh H1
theorem vf {x:Str} {e0:Expr} {es:List Expr} {p1 p2 pos:Pos} {ta:TA} (xs:XS X.K S) (hg:Gl X x) (hm:X.mg x=some (.ref S)) (xc:XC X.K C tl) (ha:PA X (e0 :: es) ta) (hd:gg x:=by decide)
  {pl:Sem Bool} (ht:eval (.Call (.Attribute (.Name x p1) "__init__" p2) (e0 :: es) [] pos) X.env=(do
   let ov ← eval (.Name x p1) X.env
   standAt p2.atName
   let (f,first) ← holding [ov] (getMethod ov "__init__" pl)
   callWith pos f first (backTo pos (starEach (e0 :: es) X.env)) (backToKw pos (keywordEach [] X.env))):=by rfl)
  (EV:starEach (e0 :: es) X.env=(false,eval e0 X.env) :: starEach es X.env:=by rfl) (fM:(backTo pos (starEach es X.env)).any (·.1)=false:=by rfl) :
  PE X (.Call (.Attribute (.Name x p1) "__init__" p2) (e0 :: es) [] pos) (Ly C ta):=by
 intro pins s σ H Q I h
 refine PySem.W.methodCall_KW (pl:=pl) (jd I hg hm ?_ hd) ht
 refine PySem.W.method_cls I.la xs.ga (PySem.W.cls_value I.la xs.rd xs.fi (by decide +kernel) ?_)
 refine callWith_builtin1 (bT (ha pos pins _ σ H _ (I.tok _) h) fun us s1 ⟨vs,H1,I1,r,e,y,ev,eh,q⟩=>?_) EV fM
 subst ev
 obtain ⟨u1,r1,rfl,z1,r⟩:∃ u1 r1,us=u1 :: r1∧RelV (.ref e) u1∧Vals [.str y] r1:=by cases r with | cons a b=>exact ⟨_,_,rfl,a,b⟩
 obtain ⟨u2,r2,rfl,z2,r⟩:∃ u1 r2,r1=u1 :: r2∧RelV (.str y) u1∧Vals [] r2:=by cases r with | cons a b=>exact ⟨_,_,rfl,a,b⟩
 cases r
 obtain rfl:u1=Value.ref e:=z1
 obtain ⟨⟨t,oe⟩,_,_⟩:=I1.bC e _ eh
 refine Af I1.la xc oe rfl rfl rfl (by show (1:Nat)≤sizeLine; rw [sizeLine_eq]; omega) fun h' k1 k2=>?_
 refine ⟨.bh,H1,?_,rfl,q⟩
 have:=I1.write (o:=.ext (vN C e none)) (h':=h') (t':=s1.toks) (by rw [eh]; trivial) (.inl rfl) k1 ⟨_,k2⟩ (De (t:=s1.heap.objs.size) k2)
 rw [Dd eh] at this
 exact this
def XT (C:Addr) (to tv:TE):TS:=fun D σ H=>tv σ H fun y H1=>to σ H1 fun x H2=>∃ e i,y = .int i∧x = .ref e∧H2 e=some (.ext (vN C e none)) ∧
 ∀ dx,H2 dx=none→dx≠e→D.nx σ (upd (upd H2 e (.ext (vN C e (some dx)))) dx (.xd [("place",.int i)]))
theorem Iw {o value:Expr} {pos pos':Pos} {to tv:TE} (xc:XC X.K C tl) (f:XF X.K C) (ho:PE X o to) (hv:PE X value tv) (hs:swapsWith value (some (.Attribute o "place" pos')) pos.line X.env=pure false:=by rfl) :
  PS X (.Assign [.Attribute o "place" pos'] value pos) (XT C to tv):=by
 intro pins s σ H D I h
 refine plainObj_wpAny_Assign_Attribute (bT (hv pins s σ H _ I h) fun u s1 ⟨y,H1,I1,ry,q⟩=>bT (ho pins s1 σ H1 _ I1 q) fun ov s2 ⟨x,H2,I2,rx,e,i,ey,ex,eh,q2⟩=>?_) hs
 subst ey ex
 obtain rfl:ov=Value.ref e:=rx
 obtain ⟨t,rfl⟩:=ry
 obtain ⟨⟨t0,oe⟩,_,_⟩:=I2.bC e _ eh
 refine Ag I2.la xc f oe rfl rfl rfl fun h' Cq k1 k2 k3=>?_
 have ne:s2.heap.objs.size≠e:=A_ (dq oe)
 have fr:H2 s2.heap.objs.size=none:=I2.bC.fresh (du _)
 refine ⟨σ,_,?_,q2 s2.heap.objs.size fr ne⟩
 have hw:=I2.bC.write (o':=.ext (vN C e (some s2.heap.objs.size))) (h':=h') (e:=e) (by rw [eh]; trivial) (.inl rfl) k1 ⟨_,k2⟩ (De (t:=t0) k2)
 have uw:=Un.write (fs:=X.fs) (ex:=[]) (o:=.ext (vN C e (some s2.heap.objs.size))) (h':=h') (H:=H2) (x:=e) (e:=e) (by rw [eh]; trivial) (.inl rfl) k1 ⟨_,k2⟩
 have n1:upd H2 e (.ext (vN C e (some s2.heap.objs.size))) s2.heap.objs.size=none:=by rw [aH ne]; exact fr
 refine I2.un (t':=Cq) (pA uw n1 (M7 (du _))) (md hw n1 ⟨_,k3,fun y=>?_⟩)
 by_cases z:y="place"
 · subst z; show jK (some (V.int i)) (some (Value.int i t)); exact ⟨t,rfl⟩
 · show jK (List.lookup y [("place",V.int i)]) _
   rw [if_neg z,EI,beq_eq_false_iff_ne.mpr z]
   trivial
end
end EX
namespace EX
open PySem PySem.Spec PySem.Calls PyProof.Rows L2
open PySem.W (findIn typeIn Looks InstAt)
def Ah (P:Program) (w:World):v7:=fun outer H s E v s'=>∃ e C dd T H',v = .ref e∧s'.os=s.os∧AllBare s'.gens∧Un (ke outer) [] H H' s.heap s'.heap∧jt P w H' s'.heap∧Flt s'.heap e C dd (some T) .none ∧
 s.heap.get? e=none∧s.heap.get? T=none∧H' e=none∧H' T=none∧E (.ref C) dd H'
def del (H:Hp) (e:Addr):Hp:=fun b=>if b=e then none else H b
theorem pB {H:Hp} {e:Addr}:del H e e=none:=by unfold del; rw [if_pos rfl]
theorem hX {H:Hp} {e b:Addr} (h:b≠e):del H e b=H b:=by unfold del; rw [if_neg h]
theorem Lz {fs ex:List Addr} {H:Hp} {h:Heap} {e:Addr} {φ:Heap→Prop} (q:H e=some (.ext φ)):Un fs ex H (del H e) h h where
 keep:=fun _ _ z _ _ _=>z
 slot:=fun b o z _ _ _=>⟨o.slots,z⟩
 free:=fun b o _ z _=>by by_cases y:b=e; rw [y]; exact pB; rw [hX y]; exact z
 there:=fun b o z _=>⟨o,z⟩
 iw:=fun b xs z=>by rw [hX (fun y=>by rw [y,q] at z; cases z)]; exact z
 gG:=fun b o u z=>by rw [hX (fun y=>by rw [y,q] at z; cases z)]; exact z
 iy:=fun b ps z=>⟨#[],by rw [hX (fun y=>by rw [y,q] at z; cases z),z]; simp⟩
theorem GO {P:Program} {w:World} {H:Hp} {h:Heap} {e:Addr} {φ:Heap→Prop} (ok:jt P w H h) (q:H e=some (.ext φ)):jt P w (del H e) h:=fun b u z=>by
 have n:b≠e:=fun y=>by rw [y,pB] at z; cases z
 rw [hX n] at z
 exact (ok b u z).mF (fun _ _ _ y=>y) (fun c y=>by rw [hX (fun x=>by rw [x,q] at y; cases y)]; exact y) fun c xs y=>by rw [hX (fun x=>by rw [x,q] at y; cases y)]; exact y
theorem GP {h:Heap} {e C:Addr} {dd:Option Addr} (q:vN C e dd h):Flt h e C dd none .none:=let ⟨t,a⟩:=q; ⟨_,_,a,rfl,rfl,rfl,by simp,rfl⟩
theorem kT {P:Program} {w:World} {H:Hp} {h:Heap} {a:Addr} {o:HO} (x:bM P w H h a o):∃ u,h.get? a=some u:=by
 cases o with
 | lst xs=>obtain ⟨_,_,_,_,e⟩:=x; exact ⟨_,e⟩
 | tup xs=>obtain ⟨_,_,_,_,e,_⟩:=x; exact ⟨_,e⟩
 | dK aZ=>obtain ⟨_,_,_,_,o,_,_,e,_⟩:=x; exact ⟨_,e⟩
 | dT aZ=>obtain ⟨_,_,_,_,o,_,_,e,_⟩:=x; exact ⟨_,e⟩
 | set S n=>obtain ⟨o,_,_,_,e,_⟩:=x; exact ⟨_,e⟩
 | ins C dx fs=>obtain ⟨_,_,_,e,_⟩:=x; exact ⟨_,e⟩
 | own y=>exact x
 | xd fs=>obtain ⟨_,⟨_,_,_,e,_⟩,_⟩:=x; exact ⟨_,e⟩
 | QK lo hi=>obtain ⟨_,_,_,e⟩:=x; exact ⟨_,e⟩
 | tV ob u=>exact ⟨_,x.1⟩
 | Hz ps=>exact ⟨_,show h.get? a=some _ from x⟩
 | met f y=>exact ⟨_,show h.get? a=some _ from x⟩
 | ext φ=>exact x.2.1
theorem LA {P:Program} {w:World} {K:PySem.W.Frag} {mg:Str→Option Value} {base:Heap} {N:List Str} {qual:Str} {scope:Scope} {f:Addr} {cd:Value} {A:Around} {outer:List Env} {s s':Shared} {H H':Hp} {E:XK} {pins:List (Addr×Obj)} {σ:L2.St}
  {e C:Addr} {dd T:Option Addr} (I:Inv (dB (Ah P w) P w K mg base N qual scope f cd A outer s H E) pins σ H' s') (F:Flt s'.heap e C dd T .none) (he:H' e=none) (hT:∀ a,T=some a→H' a=none)
  (ne:s.heap.get? e=none) (nT:∀ a,T=some a→s.heap.get? a=none) (hE:E (.ref C) dd H'):(dB (Ah P w) P w K mg base N qual scope f cd A outer s H E).xe (.ref e) s':=by
 have st:=I.stack
 have fr:=I.ng
 have Ez:=I.ok.frames
 have nf:=F.EN st
 refine C9 Ez st rfl F fun h2 T2 F2 n2 k=>?_
 have lt:∀ b o,s.heap.get? b=some o→b≠s.heap.objs.size:=fun b o q=>gF (dq q)
 have cn:∀ b o,s.heap.get? b=some o→b≠e∧T≠some b:=fun b o q=>⟨fun z=>by (rw [z,ne] at q; cases q),fun z=>by (rw [nT b z] at q; cases q)⟩
 have Rf:∀ b,b∈ke (envOfC qual scope s.heap.objs.size f cd :: outer)→b=s.heap.objs.size∨b∈ke outer:=fun b hb=>by
  rcases dS.mp (show b∈s.heap.objs.size :: ke outer from hb) with z | z
  · exact .inl z
  · exact .inr z
 have u:Un (ke outer) [] H H' s.heap s'.heap:=I.base
 have hk:∀ b u,H' b=some u→b≠e∧T≠some b∧b∉ke (envOfC qual scope s.heap.objs.size f cd :: outer):=fun b u z=>⟨fun y=>by (rw [y,he] at z; cases z),fun y=>by (rw [hT b y] at z; cases z),fun y=>by (rw [fr b y] at z; cases z)⟩
 refine ⟨e,C,dd,T2,H',rfl,I.os,I.bare,⟨fun b o q n Rg _=>?_,fun b o q n Rg _=>?_,fun b o q n _=>u.free b o q n (by simp),fun b o q _=>?_,u.iw,u.gG,u.iy⟩,fun b u z=>?_,F2,ne,?_,he,?_,hE⟩
 · exact k.keep b o (u.keep b o q n Rg (by simp)) (cn b o q).1 (cn b o q).2 fun z=>(Rf b z).elim (lt b o q) Rg
 · obtain ⟨sl,q1⟩:=u.slot b o q n Rg (by simp)
   obtain ⟨ye,q2⟩:=k.any q1 (cn b o q).1 (cn b o q).2
   exact ⟨ye,q2⟩
 · obtain ⟨o1,q1⟩:=u.there b o q (by simp)
   obtain ⟨sl,q2⟩:=k.any q1 (cn b o q).1 (cn b o q).2
   exact ⟨_,q2⟩
 · refine (I.bC b u z).mF (fun c v hc q=>?_) (fun _ y=>y) fun _ _ y=>y
   have hh:∃ u,H' c=some u:=by
    rcases hc with y | y
    · exact ⟨u,by rw [y]; exact z⟩
    · exact ⟨_,y⟩
   obtain ⟨u',y⟩:=hh
   obtain ⟨n1,XU,n3⟩:=hk c u' y
   exact k.keep c v q n1 XU n3
 · cases q:s.heap.get? T2 with
   | none=>rfl
   | some o =>
     obtain ⟨o1,q1⟩:=u.there T2 o q (by simp)
     rw [n2] at q1; cases q1
 · cases q:H' T2 with
   | none=>rfl
   | some o =>
     obtain ⟨o1,q1⟩:=kT (I.bC T2 o q)
     rw [n2] at q1; cases q1
def Rh (C:Addr):Sp:=fun vs H Q _=>∃ e i,vs=[.ref e,.int i]∧0≤i∧i≤100∧H e=some (.ext (vN C e none)) ∧
 ∀ dx,H dx=none→dx≠e→Q .bh (upd (upd H e (.ext (vN C e (some dx)))) dx (.xd [("place",.int i)]))
structure XP (P:Program) (w:World) (K:PySem.W.Frag) (mg:Str→Option Value) (base:Heap) (x:Str) (C:Addr) (k:Nat):Prop where
 m:mg x=some (.ref C)
 kp:PySem.W.keepIn K (.ref C)=true
 xc:∃ tl,XC K C tl
 init:∃ fI fd,findIn K (.ref C) "__init__" = some (some (.ref fI))∧typeIn K (.ref fI)=some (.type "function")∧Binds K fd ["self","place"] []∧cD P w K mg base iK k fI fd ["self","place"] (Rh C)
section
variable {X:Cx} {C:Addr} {k:Nat} {x:Str}
def Ud (C:Addr) (t:TA):TE:=fun σ H Q=>t σ H fun vs H1=>∃ i,vs=[.int i]∧0≤i∧i≤100∧∀ e dx,H1 e=none→H1 dx=none→dx≠e→Q (.ref e) (upd (upd H1 e (.ext (vN C e (some dx)))) dx (.xd [("place",.int i)]))
theorem LB {a:Expr} {es:List Expr} {p pos:Pos} {t:TA} (xp:XP X.prog X.w X.K X.mg X.base x C k) (hr:bp (k+1) X.A) (hg:Gl X x) (ha:PA X (a :: es) t) (nP:gg x:=by decide)
  (he:starEach (a :: es) X.env=(false,eval a X.env) :: starEach es X.env:=by rfl) (fM:(backTo pos (starEach es X.env)).any (·.1)=false:=by rfl):PE X (.Call (.Name x p) (a :: es) [] pos) (Ud C t):=by
 intro pins s σ H Q I h
 obtain ⟨tl,xc⟩:=xp.xc
 obtain ⟨fI,fd,hi,ht,hb,F⟩:=xp.init
 refine wpAny_Call_Name_kw (jd I hg xp.m ?_ nP)
 refine QH (h₀:=X.base) I.ok.mod.Mu xp.kp (bT (ha pos pins s σ H _ I h) fun us s1 ⟨vs,H1,I1,r,i,ev,h0,h1,q⟩=>⟨I1.la,?_⟩) he fM
 subst ev
 obtain ⟨u1,r1,rfl,z1,r⟩:∃ u1 r1,us=u1 :: r1∧RelV (.int i) u1∧Vals [] r1:=by cases r with | cons a b=>exact ⟨_,_,rfl,a,b⟩
 cases r
 refine Ad (g:=s1.gens) (d:=s1.drawn) (t:=s1.toks) (os:=s1.os) I1.la xc hi ht (fun h' e hm=>?_) (by show (1:Nat)≤sizeLine; rw [sizeLine_eq]; omega)
 obtain ⟨t0,O_,_,_⟩:=hm.there
 have n1:H1 e=none:=by
  cases q:H1 e with
  | none=>rfl
  | some o=>obtain ⟨u,z⟩:=kT (I1.bC e o q); rw [hm.new] at z; cases z
 have I2:Inv X pins σ (upd H1 e (.ext (vN C e none))) { s1 with heap:=h' }:=I1.un (t':=s1.toks) (pA (Un.kept hm.keeps) n1 hm.new) (md (I1.bC.kept hm.keeps) n1 (De O_))
 have r2:Vals [V.ref e,.int i] [Value.ref e,u1]:=.cons rfl (.cons z1 .nil)
 refine wpAny_call (codeAny_mono (F.run _ X.stack _ _ ⟨[Value.ref e,u1],[]⟩ [Value.ref e,u1] _ (fun v H2=>v = .bh∧Q (.ref e) H2) E0 (hr.make C [u1] []) (I2.JI.make C [u1] []) (hb _ [Value.ref e,u1] I2.la rfl) r2 ⟨e,i,rfl,h0,h1,aU,fun dx d1 d2=>⟨rfl,?_⟩⟩) fun r s' hq=>?_)
 · have d3:H1 dx=none:=by rw [aH d2] at d1; exact d1
   have:=q e dx n1 d3 d2
   rw [EJ]
   exact this
 · cases r with
   | error e=>exact False.elim hq
   | ok fl =>
     cases fl with
     | ret u =>
       obtain ⟨v,H2,I3,rv,rfl,q2⟩:=I2.after hq
       refine ⟨?_,.ref e,H2,I3,rfl,q2⟩
       exact rv
     | _=>exact False.elim hq
def LC (X:Cx) (te:TE):TS:=fun _ σ H=>te σ H fun v H1=>∃ e C dd tl,v = .ref e∧XC X.K C tl∧H1 e=some (.ext (vN C e dd)) ∧
 ∀ pins s,Inv X pins σ H1 s→Inv X pins σ (del H1 e) s→Flt s.heap e C dd none .none→X.xe (.ref e) s
theorem Dg {e:Expr} {pos:Pos} {te:TE} (hc:X.calm=true) (he:PE X e te):PS X (.Raise (some e) none pos) (LC X te):=by
 intro pins s σ H D I h
 rw [arm_exec_Raise]
 refine wpAny_bind (wpAny_standAt ?_)
 unfold raiseStmt
 refine wpAny_bind (wpAny_bind (bT (he pins s σ H _ I h) fun v s1 ⟨x,H1,I1,r,e,C,dd,tl,ex,xc,eh,q⟩=>?_))
 subst ex
 obtain rfl:v=Value.ref e:=r
 have hh:=I1.ok.hd hc
 obtain ⟨nm,q',N,bs,sn,sub,ab,col,Ik,k0,k1,k2,k3,k5,oK⟩:=xc.obj
 have oC:=I1.la _ _ oK
 obtain ⟨⟨t,oe⟩,_,_⟩:=I1.bC e _ eh
 have hE:X.xe (.ref e) s1:=q pins s1 I1 (I1.un (t':=s1.toks) (Lz eh) (GO I1.bC eh)) (GP ⟨t,oe⟩)
 have XW:(Value.ref C :: (tl.map Value.ref ++ EA)).contains (.type "BaseException")=true:=by simp
 obtain ⟨hp,g,dr,tk,os⟩:=s1
 repeat (first | with_reducible refine wpAny_loadPart_at oe ?_ | with_reducible refine wpAny_loadPart_at oC ?_ | (with_reducible refine wpAny_isSubtype_exc oC ?_; rw [XW]) | wp_step)
 exact wpAny_raiseNew_none hh hE
end
end EX
namespace EX
open PySem PySem.Spec PySem.Calls PyProof.Rows L2 VT
abbrev WT:=Addr→Option Int→Prop
def GQ (H:Hp) (dd:Option Addr):Option Int→Prop
 | none=>dd=none
 | some i=>∃ d,dd=some d∧H d=some (.xd [("place",.int i)])
def EB (K:PySem.W.Frag) (n:Nat) (G:WT→List T→(Rt→Prop)→Prop):Sp:=fun vs H Q E=>∃ W,bS K n (G W) vs H Q E∧∀ C p dd H',aJ H H'→GQ H' dd p→W C p→E (.ref C) dd H'
structure Pa (X:Cx) (Z:Zc) (W:WT):Prop where
 calm:X.calm=true
 own:PassesOwn (model X.prog X.w) X.A X.env X.xe
 P0:Z.P=[]
 H0:Z.H0=X.H₀
 ex:X.ex=[]
 xe:∀ pins σ H s e C dd T p,Inv X pins σ H s→Flt s.heap e C dd T .none→H e=none→(∀ a,T=some a→H a=none)→X.s₀.heap.get? e=none→(∀ a,T=some a→X.s₀.heap.get? a=none)→aJ Z.H0 H→GQ H dd p→W C p→X.xe (.ref e) s
theorem rG {K:PySem.W.Frag} {Z:Zc} {tm:List (T×V)} {O:List (Option Addr)} {ρ:En} {σ:L2.St} {H:Hp} (h:Z.P=[]) (I:az K Z tm O ρ σ H):aJ Z.H0 H:=fun b o e=>I.keep b o e (by rw [h]; simp)
section
variable {X:Cx} {Z:Zc} {W:WT} {C f:Addr} {fd:FuncData} {ps:List Str} {k n:Nat} {x:Str} {g:FA}
def LD (W:WT) (C:Addr) (g:FA):FS:=fun _ ρ=>g ρ fun ts=>∃ i:Int,ts=[.int i]∧0≤i∧i≤100∧W C (some i)
theorem kU {a:Expr} {np bf pos:Pos} (hw:Pa X Z W) (xp:XP X.prog X.w X.K X.mg X.base x C k) (hr:bp (k+1) X.A) (hg:Gl X x) (ha:VA X Z [a] g) (nP:gg x:=by decide)
  (he:starEach [a] X.env=(false,eval a X.env) :: starEach [] X.env:=by rfl) (fM:(backTo bf (starEach [] X.env)).any (·.1)=false:=by rfl) :
  VS X Z (.Raise (some (.Call (.Name x np) [a] [] bf)) none pos) (LD W C g):=.mk fun tm=>PS.weak (Dg hw.calm (LB xp hr hg (ha tm) nP he fM)) fun D σ H ⟨ρ,O,d,I,q,F⟩ =>
 ⟨ρ,O,_,I,q,fun ts ⟨i,XY,h0,h1,hW⟩ vs H1 s1 a1=>by
   subst XY
   simp only [aG,At] at a1
   obtain ⟨v,r,rfl,rfl,rfl⟩:=a1
   refine ⟨i,rfl,h0,h1,fun e dx n1 n2 n3=>?_⟩
   obtain ⟨tl,xc⟩:=xp.xc
   have eu:upd (upd H1 e (.ext (vN C e (some dx)))) dx (.xd [("place",.int i)]) e=some (.ext (vN C e (some dx))):=by rw [aH (Ne.symm n3),aU]
   refine ⟨e,C,some dx,tl,rfl,xc,eu,fun pins s J J2 fl=>?_⟩
   have sm:aJ Z.H0 H1:=(rG hw.P0 I).trans s1
   have z0:Z.H0 e=none:=sm.free n1
   refine hw.xe pins σ _ s e C (some dx) none (some i) J2 fl pB (fun _ z=>nomatch z) ?_ (fun _ z=>nomatch z) (fun b o z=>?_) ⟨dx,rfl,by rw [hX n3,aU]⟩ hW
   · cases q2:X.s₀.heap.get? e with
     | none=>rfl
     | some o =>
       have:=J.base.free e o q2 (by rw [← hw.H0]; exact z0) (by rw [hw.ex]; simp)
       rw [eu] at this; cases this
   · have z1:=sm b o z
     have b1:b≠e:=fun y=>by rw [y,n1] at z1; cases z1
     have b2:b≠dx:=fun y=>by rw [y,n2] at z1; cases z1
     rw [hX b1,aH b2,aH b1]
     exact z1⟩
theorem Pb (hw:Pa X Z W):Passes (Ah X.prog X.w) X (fun c dd H'=>∃ C p,c = .ref C∧aJ Z.H0 H'∧GQ H' dd p∧W C p):=by
 rintro pins σ H s _ s' I ⟨e,C,dd,T,H',rfl,os,bare,un,bC,fl,n1,n2,n3,n4,C',p,eC,sm,pl,hW⟩
 cases eC
 have J:=I.Bs os un bC bare fun b z=>nomatch z
 have fr:∀ a,s.heap.get? a=none→X.s₀.heap.get? a=none:=fun a z=>by
  cases q:X.s₀.heap.get? a with
  | none=>rfl
  | some o=>obtain ⟨o',q'⟩:=I.base.there a o q (by rw [hw.ex]; simp); rw [z] at q'; cases q'
 exact hw.xe pins σ H' s' e C dd (some T) p J fl n3 (fun a z=>by cases z; exact n4) (fr e n1) (fun a z=>by cases z; exact fr _ n2) sm pl hW
def LF (n:Nat) (g:FA) (G:WT→List T→(Rt→Prop)→Prop) (W:WT):FS:=fun d ρ=>g ρ fun ts=>ts.length=n∧∃ W',(∀ C p,W' C p→W C p)∧G W' ts fun r=>r = .vw .bh∧d.nx ρ
theorem vg {e:Expr} {es:List Expr} {G:WT→List T→(Rt→Prop)→Prop} {p pos pos':Pos} (hw:Pa X Z W) (F:cD X.prog X.w X.K X.mg X.base (Ah X.prog X.w) k f fd ps (EB X.K n G)) (hr:bp k X.A) (hg:Gl X x) (hm:X.mg x=some (.ref f)) (hk:PySem.W.keepIn X.K (.ref f)=true) (hb:Binds X.K fd ps [])
  (ha:Es X Z (e :: es) g) (nP:gg x:=by decide) (he:starEach (e :: es) X.env=(false,eval e X.env) :: starEach es X.env:=by rfl) (fM:(backTo pos (starEach es X.env)).any (·.1)=false:=by rfl)
  (hs:swapsWith (.Call (.Name x p) (e :: es) [] pos) none pos'.line X.env=pure false:=by rfl) :
  VS X Z (.Expr (.Call (.Name x p) (e :: es) [] pos) pos') (LF n g G W):=.mk fun tm=>PS.weak (nq (ki F hr hg hm hk hb .nil (Pb hw) (ha tm) nP he fM) hs) fun D σ H ⟨ρ,O,d,I,q,F⟩ =>
 ⟨ρ,O,_,I,q,fun ts ⟨hn,W',sub,hG⟩ vs H1 s1 a1=>by
   have J:=I.same s1
   have sm:aJ Z.H0 H1:=(rG hw.P0 I).trans s1
   have a2:aG X.K H1 [] ts vs:=aG.iff.mpr (Paired.mE a1 fun _ _ z=>z.bare)
   show EB X.K n G (vs ++ []) H1 _ _
   rw [Eh]
   refine ⟨W',⟨ts,[],[],fun _ r=>r = .vw .bh∧d.nx ρ,IX,fun _ z=>absurd z fD,fun _ z=>absurd z fD,dG hn a2,hG,fun us r ⟨hr,hd⟩ v H' fr z=>?_⟩,fun C p dd H' s2 pl w=>⟨C,p,rfl,sm.trans s2,pl,sub C p w⟩⟩
   subst hr
   have s2:aJ H1 H':=fun b o e=>fr b o e fD
   exact F.nx O ρ σ H' (J.same s2) hd⟩
end
section
variable {P:Program} {w:World} {K:PySem.W.Frag} {mg:Str→Option Value} {base:Heap}
def Ai (P:Program) (w:World) (K:PySem.W.Frag) (mg:Str→Option Value) (base:Heap) (x:Str) (ps:List Str) (k:Nat) (sp:Sp):Prop :=
 ∃ f fd,mg x=some (.ref f)∧PySem.W.keepIn K (.ref f)=true∧Binds K fd ps []∧cD P w K mg base (Ah P w) k f fd ps sp
theorem V5:∀ n (as:List Addr) k,pz (List.replicate n false) as k=[]
 | 0,_,_=>rfl
 | n+1,as,k=>V5 n as (k+1)
theorem Iy:∀ n (ρ:En),lC (List.replicate n false) ρ=[]
 | 0,_=>rfl
 | n+1,ρ=>Iy n ρ.tail
theorem Pc:∀ n (ts:List T),ts.length=n→si (List.replicate n false) ts=ts.map fun t=>some (t,false)
 | 0,ts,e=>by cases ts <;> simp_all [si]
 | n+1,[],e=>by simp at e
 | n+1,t :: ts,e=>by rw [List.replicate_succ,si,Pc n ts (by simpa using e)]; rfl
theorem V6:∀ {n:Nat} {H:Hp} {A as:List Addr} {ts:List T} {vs:List V},dF K H A (List.replicate n false) as ts vs→as=[]
 | 0,_,_,_,_,_,h=>h.1
 | n+1,_,_,_,_,_,h=>let ⟨_,_,_,_,_,_,_,h⟩:=h; V6 (n:=n) h
theorem Ue {x qual:Str} {st:Stmt} {f:Addr} {fd:FuncData} {N ps:List Str} {k n:Nat} {G:WT→List T→(Rt→Prop)→Prop} (F:Bf K x qual st f fd) (S:aI N ps (aj st)) (hn:n=ps.length)
  (iG:∀ (bD:Value) (A:Around) (outer:List Env) (s:Shared) (H:Hp) (E:XK) (Ox:List Addr),bp k (A.deeper (envOfC qual (aj st) s.heap.objs.size f bD))→∀ W ts q,G W ts q→Pa (dB (Ah P w) P w K mg base N qual (aj st) f bD A outer s H E) ⟨H,[],Ox⟩ W →
    ∃ g,ky (dB (Ah P w) P w K mg base N qual (aj st) f bD A outer s H E) ⟨H,[],Ox⟩ (cf st) g∧(ts.length=n→g { nx:=fun _=>q (.vw .bh),rt:=fun _ r=>q r } (ts.map (fun t=>some (t,false)) ++ List.replicate (N.length - ts.length) none))) :
  cD P w K mg base (Ah P w) (k+1) f fd ps (EB K n G):=by
 obtain ⟨oc,od,kV,doc,pm,an,bD,ct,yd,rfl,lk,iA⟩:=F.ex
 refine HH lk iA S (fun vs H Q E h=>?_) fun A outer s H vs Q E hr HI=>?_
 · obtain ⟨W,⟨ts,as,Ox,q,_,_,_,ha,_⟩,_⟩:=h
   rw [(eR ha).2.1,EF,hn]
 · obtain ⟨W,⟨ts,as,Ox,q,nd,nx,ox,ha,hG,kk⟩,hE⟩:=HI
   have l1:=(eR ha).1
   rw [EF] at l1
   have e0:=V6 ha
   subst e0
   have hw:Pa (dB (Ah P w) P w K mg base N qual (aj st) f bD A outer s H E) ⟨H,[],Ox⟩ W :=
    ⟨rfl,PassesOwn.leaving,rfl,rfl,rfl,fun pins σ H' s' e C dd T p I fl h1 h2 h3 h4 sm pl w=>LA I fl h1 h2 h3 h4 (hE C p dd H' sm pl w)⟩
   obtain ⟨g,h1,h2⟩:=iG bD A outer s H E Ox hr W ts (q []) hG hw
   refine ⟨_,h1 [],?_⟩
   have:=oa (X:=dB (Ah P w) P w K mg base N qual (aj st) f bD A outer s H E) (N:=N) (g:=g) nd nx ox ha kk (by
    rw [Pc n ts l1]
    simp only [Iy]
    exact h2 l1)
   rw [V5] at this
   exact this
end
end EX
namespace EC
open PySem L2 VT Gen ym EX fH
abbrev bQ:Stmt:=top 31
abbrev bV:Stmt:=top 33
abbrev cc:Stmt:=top 36
abbrev dP:Stmt:=top 38
def u6 (ts:List T) (q:Rt→Prop):Prop:=∃ (rs:List Rw) (i:Nat) (x f:Str) (as:List nG),ts=[.lst (rs.map ax),GG (bc rs rs.length),.int (i:Int)]∧rs[i]?=some (Rw.call x f as)∧q (.vw (.bl (va rs i f as)))
def iX (cB:Addr) (W:WT) (ts:List T) (q:Rt→Prop):Prop:=∃ rs:List Rw,ts=[.lst (rs.map ax)]∧rs.length≤60∧(match brk [] rs 0 with | none=>q (.vw .bh) | some i=>W cB (some (i:Int)))
def kR (cC:Addr) (W:WT) (ts:List T) (q:Rt→Prop):Prop:=∃ rs:List Rw,ts=[.lst (rs.map ax)]∧rs.length≤60∧(match i8 rs with | none=>q (.vw .bh) | some i=>W cC (some (i:Int)))
def nI (cB cC:Addr) (W:WT) (ts:List T) (q:Rt→Prop):Prop:=∃ rs:List Rw,ts=[.lst (rs.map ax)]∧rs.length≤60∧(∀ r∈rs,ir (ax r))∧(match brk [] rs 0 with
 | some i=>W cB (some (i:Int))
 | none=>match i8 rs with
   | some i=>W cC (some (i:Int))
   | none=>q (.fr (.lst (rs.map ax))))
section
variable {P:Program} {w:World} {K:PySem.W.Frag} {mg:Str→Option Value} {base:Heap} {kW kX:Addr}
abbrev e_:List Str:=["program","opened","place","row"]
theorem b8:aI e_ ["program"] (aj bV):=L2.gI
theorem iu {f:Addr} {fd:FuncData} (D:Df K mg "check_blocks" bV ["program"] f fd) (M:z7 w K mg) (hY:XP P w K mg base "NoBlock" kW 1) (iY:bW P w K mg base "may_stand" ["opened","word"] 1 (bS K 2 Lx)) (l7:bW P w K mg base "go_past" ["opened","word"] 1 (qo K [true,false] Ub)):Ai P w K mg base "check_blocks" ["program"] 3 (EB K 1 (iX kW)):=by
 obtain ⟨u9,sZ,iZ,i0,i4,i5⟩:=iY
 obtain ⟨z_,w6,l8,l9,l_,ma⟩:=l7
 refine ⟨f,fd,D.m,D.F.kp,D.b,Ue D.F b8 rfl fun bD A outer s H E Ox hr W ts q hG hw=>?_⟩
 have nd:=b8.nd
 have np:∀ {i:Nat},aY ⟨H,[],Ox⟩ i:=ka
 refine ⟨_,(af (dC (i:=1) nd rfl (Or.inl rfl) (VP.vx (bL ai)) np)
   (af (cF hw.own rfl (jg (by rfl) M.enumerate (aq 0)) (gO (n:=2) rfl (bx (aW (i:=2) nd rfl (Or.inl rfl) np) (bx (aW (i:=3) nd rfl (Or.inl rfl) np) eA)))
     (af (aL (c_ (cS (eS i5 (hr.mono (by decide)) (by rfl) iZ i0 i4 (ak (aa 1) (ak (VP.vr (aQ (aa 3) (VP.vr ag))) aw)))))
       (ah (kU hw hY (hr.mono (by decide)) (by rfl) (ae (aq 2) ai)))
       ay)
     (ah (a_ (oi ma (hr.mono (by decide)) (by rfl) l8 l9 l_ (nB 1 (iQ (VP.ve (aQ (aa 3) (VP.vr ag))) sr)))))))
   (ah (aL (q9 (VP.vr (aE aA aB (by rfl) M.len gC (ak (aa 1) aw))) (VP.vr ag))
     (ah (kU hw hY (hr.mono (by decide)) (by rfl) (ae (VP.ve (aE aA aB (by rfl) M.len gC (ak (aa 0) aw))) ai)))
     ay)))),fun _=>?_⟩
 obtain ⟨rs,rfl,hn,hq⟩:=hG
 refine ⟨kd _,?_⟩
 refine eG (fun i ρ=>∃ b2 b3 st,ρ=[some (.lst (rs.map ax),false),some (.lst (st.map .str),true),b2,b3]∧brk [] rs 0=brk st (rs.drop i) i∧st.length≤i) ⟨_,_,[],rfl,rfl,kd _⟩ ?_ ?_
 · rintro i r ρ hr ⟨b2,b3,st,rfl,hs,hl⟩
   have hi:=(gh.mp hr).1
   rw [yM hr] at hs
   obtain ⟨l,el⟩:=nH r
   rw [el]
   refine ⟨rfl,rfl,_,au (j:=0) rfl,rfl,st,wd r,rfl,?_⟩
   cases hm:gS st (wd r) with
   | false =>
     have e2:brk [] rs 0=some i:=by rw [hs]; show (if gS st (wd r)=true then _ else _)=_; rw [hm]; rfl
     rw [e2] at hq
     exact ⟨rfl,(i:Int),rfl,by omega,by omega,hq⟩
   | true =>
     refine ⟨rfl,_,au (j:=0) rfl,st,wd r,rfl,by omega,hm,?_⟩
     have hg:=GH hm
     refine ⟨_,_,kb st (wd r),rfl,?_,by omega⟩
     rw [hs]; show (if gS st (wd r)=true then _ else _)=_; rw [if_pos hm]
 · rintro ρ ⟨b2,b3,st,rfl,hs,hl⟩
   rw [List.drop_length] at hs
   have tW:brk [] rs 0=if st=[] then none else some rs.length:=hs
   rw [tW] at hq
   by_cases he:st=[]
   · rw [if_pos he] at hq
     subst he
     exact hq
   · rw [if_neg he] at hq
     have hp:0 < st.length:=List.length_pos_iff.mpr he
     have O9:((st.map T.str).length:Int)=(st.length:Int):=by rw [b_]
     refine rE (c:=decide ((0:Int) < ((st.map T.str).length:Int))) (decide_eq_true (by omega)) ?_
     have XZ:((rs.map ax).length:Int)=(rs.length:Int):=by rw [b_]
     exact ⟨((rs.map ax).length:Int),rfl,by omega,by omega,by rw [XZ]; exact hq⟩
abbrev j4:List Str:=["program","firsts","place","row","first"]
theorem dX:aI j4 ["program","firsts","place"] (aj dP):=L2.gI
theorem mx {f:Addr} {fd:FuncData} (D:Df K mg "may_call" dP ["program","firsts","place"] f fd) (M:z7 w K mg):bW P w K mg base "may_call" ["program","firsts","place"] 1 (bS K 3 u6):=by
 refine D.ji (jU D.F dX rfl fun bD A outer s H E Ox hr ts q hG=>?_)
 have nd:=dX.nd
 have hu:=bp.fz hr
 have np:∀ {i:Nat},aY ⟨H,[],Ox⟩ i:=ka
 have vL:=yH hu
 refine ⟨_,(af (aP (i:=3) nd rfl (Or.inl rfl) (VP.vx (aQ (aa 0) (aa 2))) np)
   (af (aP (i:=4) nd rfl (Or.inl rfl) (VP.vx (Cw vL (aa 1) (VP.vr (aQ (aa 3) (VP.vr ag))) ⟨rfl,rfl,rfl,rfl⟩)) np)
   (af (aL (VW.vc (iM (uD (aa 4) (VP.vr gK)) (fO (iP (aa 4) (aa 2)))))
     (ah (aD (VP.vx jC)))
     ay)
   (ah (aD (VP.vx (ik hu (VP.vr (aE aA aB (by rfl) M.len gC (ak (VP.vr (aQ (VP.vr (aQ (aa 0) (aa 4))) (VP.vr ag))) aw))) (VP.vr (aE aA aB (by rfl) M.len gC (ak (VP.vr (aQ (aa 3) (VP.vr ag))) aw)))))))))),fun _=>?_⟩
 obtain ⟨rs,i,x,g,as,rfl,hi,hq⟩:=hG
 refine ⟨_,nJ hi,_,au (j:=2) rfl,?_⟩
 have ex:=pe (bc rs rs.length) g
 dsimp only [Rt.t,zJ]
 rw [ex]
 cases ha:qa (bc rs rs.length) g with
 | none=>rw [Aa ha] at hq; exact hq
 | some j =>
   obtain ⟨_,ps,hj⟩:=pd rs.length ha
   rw [Ab ha hj] at hq
   by_cases Fo:j < i
   · rw [if_pos Fo] at hq
     exact rE (c:=decide ((j:Int) < (i:Int))) (decide_eq_true (by omega)) hq
   · rw [if_neg Fo] at hq
     refine dH (c:=decide ((j:Int) < (i:Int))) (decide_eq_false (by omega)) ?_
     refine ⟨_,nJ hj,_,au (j:=2) rfl,_,au (j:=3) rfl,?_⟩
     show q (.vw (.bl (decide (((ps.map T.str).length:Int)=((as.map lL).length:Int)))))
     rw [b_,b_]
     have e:decide ((ps.length:Int)=(as.length:Int))=decide (ps.length=as.length):=by rw [Hv]; simp; omega
     rw [e]
     exact hq
abbrev fU:List Str:=["program","firsts","place","row"]
theorem cw:aI fU ["program"] (aj cc):=L2.gI
theorem i6 {f:Addr} {fd:FuncData} (D:Df K mg "check_calls" cc ["program"] f fd) (M:z7 w K mg) (jk:XP P w K mg base "NoCall" kX 1) (gW:bW P w K mg base "first_defs" ["program"] 1 (bS K 1 wY)) (j5:bW P w K mg base "may_call" ["program","firsts","place"] 1 (bS K 3 u6)):Ai P w K mg base "check_calls" ["program"] 3 (EB K 1 (kR kX)):=by
 obtain ⟨tf,qF,gY,gZ,g6,g7⟩:=gW
 obtain ⟨w_,u_,j6,j7,j8,j9⟩:=j5
 refine ⟨f,fd,D.m,D.F.kp,D.b,Ue D.F cw rfl fun bD A outer s H E Ox hr W ts q hG hw=>?_⟩
 have nd:=cw.nd
 have hu:=bp.fz hr
 have np:∀ {i:Nat},aY ⟨H,[],Ox⟩ i:=ka
 have vL:=yH hu
 refine ⟨_,(af (aP (i:=1) nd rfl (Or.inl rfl) (VP.vx (aM g7 (hr.mono (by decide)) (by rfl) gY gZ g6 (ae (aq 0) ai))) np)
   (ah (cF hw.own rfl (jg (by rfl) M.enumerate (aq 0)) (gO (n:=2) rfl (bx (aW (i:=2) nd rfl (Or.inl rfl) np) (bx (aW (i:=3) nd rfl (Or.inl rfl) np) eA)))
     (af (aL (VW.vc (c9 (br hu (VP.vr (aQ (aa 3) (VP.vr ag))) (VP.vr ao)) (cy (kx hu (VP.vr (Cv vL (aa 1) (VP.vr (aQ (aa 3) (VP.vr ag))))) (aa 2)))))
       (ah (kU hw jk (hr.mono (by decide)) (by rfl) (ae (aq 2) ai)))
       ay)
     (ah (aL (VW.vc (c9 (br hu (VP.vr (aQ (aa 3) (VP.vr ag))) (VP.vr ao)) (cy (c_ (cS (aM j9 (hr.mono (by decide)) (by rfl) j6 j7 j8 (ae (aq 0) (ae (aq 1) (ae (aq 2) ai)))))))))
       (ah (kU hw jk (hr.mono (by decide)) (by rfl) (ae (aq 2) ai)))
       ay)))))),fun _=>?_⟩
 obtain ⟨rs,rfl,hn,hq⟩:=hG
 refine ⟨rfl,rs,rfl,hn,?_⟩
 refine eG (fun i ρ=>∃ b2 b3,ρ=[some (.lst (rs.map ax),false),some (GG (bc rs rs.length),false),b2,b3]∧∀ j < i,dQ rs j=false) ⟨_,_,rfl,fun j hj=>absurd hj (Nat.not_lt_zero _)⟩ ?_ ?_
 · rintro i r ρ hr ⟨b2,b3,rfl,hp⟩
   have hi:=(gh.mp hr).1
   have Ug:dQ rs i=false→∀ j < i+1,dQ rs j=false:=fun h j hj=>by
    rcases Nat.lt_succ_iff_lt_or_eq.mp hj with z | z
    · exact hp j z
    · rw [z]; exact h
   have bad:dQ rs i=true→W kX (some (i:Int)):=fun h=>by
    rw [xa hi hp h] at hq
    exact hq
   cases r with
   | df g ps =>
     refine ⟨rfl,rfl,_,au (j:=0) rfl,_,au (j:=1) rfl,?_⟩
     have ex:=pe (bc rs rs.length) g
     obtain ⟨j,ha⟩:=l0 hr rs.length hi
     rw [ha] at ex
     refine ⟨_,ex,?_⟩
     have ew:dQ rs i = !decide (j=i):=by unfold dQ; rw [hr]; dsimp only; rw [ha]; simp
     by_cases V7:j=i
     · refine dH (c:=!decide ((j:Int)=(i:Int))) (by simp; omega) ⟨_,au (j:=0) rfl,_,_,rfl,Ug (by rw [ew,decide_eq_true V7]; rfl)⟩
     · refine rE (c:=!decide ((j:Int)=(i:Int))) (by simp; omega) ⟨(i:Int),rfl,by omega,by omega,bad (by rw [ew,decide_eq_false V7]; rfl)⟩
   | call x g as =>
     have ew:dQ rs i = !va rs i g as:=by unfold dQ; rw [hr]
     refine ⟨rfl,rfl,_,au (j:=0) rfl,_,au (j:=0) rfl,rfl,rs,i,x,g,as,rfl,hr,?_⟩
     cases hm:va rs i g as with
     | true=>exact ⟨_,_,rfl,Ug (by rw [ew,hm]; rfl)⟩
     | false=>exact ⟨(i:Int),rfl,by omega,by omega,bad (by rw [ew,hm]; rfl)⟩
   | _=>exact ⟨rfl,rfl,_,au (j:=0) rfl,_,au (j:=0) rfl,_,_,rfl,Ug (by unfold dQ; rw [hr])⟩
 · rintro ρ ⟨b2,b3,rfl,hp⟩
   rw [xb hp] at hq
   exact hq
abbrev dn:List Str:=["rows","program"]
theorem cN:aI dn ["rows"] (aj bQ):=L2.gI
theorem jH {f:Addr} {fd:FuncData} (D:Df K mg "program_of" bQ ["rows"] f fd) (M:z7 w K mg) (g8:bW P w K mg base "check_rows" ["program"] 6 (bS K 1 wX)) (ff:Ai P w K mg base "check_blocks" ["program"] 3 (EB K 1 (iX kW))) (fW:Ai P w K mg base "check_calls" ["program"] 3 (EB K 1 (kR kX))):Ai P w K mg base "program_of" ["rows"] 7 (EB K 1 (nI kW kX)):=by
 obtain ⟨tq,qG,g9,g_,hU,hV⟩:=g8
 obtain ⟨pj,mV,fg,fj,fm,fq⟩:=ff
 obtain ⟨qH,pk,fY,fZ,f_,gb⟩:=fW
 refine ⟨f,fd,D.m,D.F.kp,D.b,Ue D.F cN rfl fun bD A outer s H E Ox hr W ts q hG hw=>?_⟩
 have nd:=cN.nd
 have np:∀ {i:Nat},aY ⟨H,[],Ox⟩ i:=ka
 obtain ⟨tM,mM⟩:=M.rD
 have i7:∀ {pos},VP (dB (Ah P w) P w K mg base dn "program_of" (aj bQ) f bD A outer s H E) ⟨H,[],Ox⟩ (.Name "MOST_ROWS" pos) (fC (.int 60)):=ei (by rfl) mM (v:=.int 60) ⟨_,rfl⟩ fun _ _=>bE
 refine ⟨_,(af (dC (i:=1) nd rfl (Or.inl rfl) (VP.vx (eE d9 gM (by rfl) M.list sG (ak (aa 0) aw))) np)
   (af (aL (q9 (VP.vr (aE aA aB (by rfl) M.len gC (ak (aa 1) aw))) (VP.vr i7))
     (ah j0)
     ay)
   (af (a_ (VP.vx (eS hV (hr.mono (by decide)) (by rfl) g9 g_ hU (ak (aa 1) aw))))
   (af (vg hw fq (hr.mono (by decide)) (by rfl) fg fj fm (ak (aa 1) aw))
   (af (vg hw gb (hr.mono (by decide)) (by rfl) fY fZ f_ (ak (aa 1) aw))
   (ah (aD (gN 1 np)))))))),fun _=>?_⟩
 obtain ⟨rs,rfl,hn,hA,hq⟩:=hG
 have hl:((rs.map ax).length:Int)=(rs.length:Int):=by rw [b_]
 refine dH (c:=decide ((60:Int) < ((rs.map ax).length:Int))) (decide_eq_false (by omega)) ?_
 refine ⟨rfl,rs,rfl,hA,rfl,rfl,W,fun _ _ z=>z,rs,rfl,hn,?_⟩
 cases hb:brk [] rs 0 with
 | some i=>rw [hb] at hq; exact hq
 | none =>
   rw [hb] at hq
   refine ⟨rfl,rfl,W,fun _ _ z=>z,rs,rfl,hn,?_⟩
   cases hc:i8 rs with
   | some i=>rw [hc] at hq; exact hq
   | none =>
     rw [hc] at hq
     exact ⟨rfl,hq⟩
end
end EC
namespace EX
open PySem PySem.Spec PySem.Calls PyProof.Rows L2
open PySem.W (findIn typeIn Looks InstAt)
def LG (C e:Addr) (dd:Option Addr):Heap→Prop:=fun h=>∃ oe vs,h.get? e=some oe∧oe.cls = .ref C∧oe.dict=dd∧oe.data = .fields vs
section
variable {X:Cx} {pins:List (Addr×Obj)} {σ:L2.St} {H H1:Hp} {s s1:Shared} {h':Heap} {e:Addr} {T:Option Addr}
theorem xi (I1:Inv X pins σ H1 s1) (I:Inv X pins σ H s) (st:X.stack=X.env :: X.outer∧X.env.frame=some X.env.locals) (k:Kp (ke X.stack) e T s.heap h') (ne:s1.heap.get? e=none) (nT:∀ a,T=some a→s1.heap.get? a=none)
  (he:H e=none) (hT:∀ a,T=some a→H a=none):Inv X pins σ H { s with heap:=h' }:=by
 have Iz:∀ b o,s1.heap.get? b=some o→b≠e∧T≠some b:=fun b o q=>⟨fun z=>by (rw [z,ne] at q; cases q),fun z=>by (rw [nT b z] at q; cases q)⟩
 have Rf:∀ b,b∈ke X.stack→b=X.env.locals∨b∈X.fs:=fun b hb=>by
  rw [st.1] at hb
  unfold ke at hb
  rw [mZ,st.2] at hb
  exact dS.mp hb
 have Uh:∀ b o,X.s₀.heap.get? b=some o→b∉X.ex→(b≠e∧T≠some b)∧b≠X.env.locals:=fun b o q hx=>by
  obtain ⟨o',q'⟩:=I1.base.there b o q hx
  exact ⟨Iz b o' q',gF (m_ (dq q) I.ok.above)⟩
 have X0:∀ b u,H b=some u→b≠e∧T≠some b∧b∉ke X.stack:=fun b u z=>⟨fun y=>by (rw [y,he] at z; cases z),fun y=>by (rw [hT b y] at z; cases z),fun y=>by (rw [I.ng b y] at z; cases z)⟩
 have cellK:∀ x c v,X.env.cells.lookup x=some c→s.heap.IsCell c v→Heap.IsCell h' c v:=fun x c v q ⟨o,ho,hd⟩=>by
  obtain ⟨v1,o1,LH,_⟩:=I1.cell x c q
  obtain ⟨n1,n2⟩:=Iz c o1 LH
  obtain ⟨sl,q2⟩:=k.any ho n1 n2
  exact ⟨_,q2,hd⟩
 refine ⟨I.ok,I.os,I.bare,⟨fun b o q n nf hx=>?_,fun b o q n nf hx=>?_,I.base.free,fun b o q hx=>?_,I.base.iw,I.base.gG,I.base.iy⟩,?_,fun x c q=>?_,I.free,I.d7,fun p hp=>?_,fun b u z=>?_,I.len⟩
 · obtain ⟨⟨n1,n2⟩,n3⟩:=Uh b o q hx
   exact k.keep b o (I.base.keep b o q n nf hx) n1 n2 fun z=>(Rf b z).elim n3 nf
 · obtain ⟨⟨n1,n2⟩,n3⟩:=Uh b o q hx
   obtain ⟨sl,q1⟩:=I.base.slot b o q n nf hx
   obtain ⟨ye,q2⟩:=k.any q1 n1 n2
   exact ⟨ye,q2⟩
 · obtain ⟨⟨n1,n2⟩,n3⟩:=Uh b o q hx
   obtain ⟨o1,q1⟩:=I.base.there b o q hx
   obtain ⟨ye,q2⟩:=k.any q1 n1 n2
   exact ⟨_,q2⟩
 · obtain ⟨m,⟨o,es,ep,ho,hd,r⟩,hl⟩:=I.loc
   obtain ⟨m1,⟨o1,_,_,LH,_⟩,_⟩:=I1.loc
   obtain ⟨n1,n2⟩:=Iz _ o1 LH
   obtain ⟨sl,q⟩:=k.any ho n1 n2
   refine ⟨m,⟨_,es,ep,q,hd,r⟩,fun i x v e1 e2 e3=>?_⟩
   obtain ⟨u,rv,l⟩:=hl i x v e1 e2 e3
   refine ⟨u,rv,?_⟩
   rcases l with l | ⟨kk,c,q,z⟩
   · exact .inl l
   · exact .inr ⟨kk,c,q,cellK x c _ q z⟩
 · obtain ⟨v,z⟩:=I.cell x c q
   exact ⟨v,cellK x c v q z⟩
 · obtain ⟨q,n,ne',nf,d⟩:=I.pin p hp
   obtain ⟨q1,_,_,_,_⟩:=I1.pin p hp
   obtain ⟨n1,n2⟩:=Iz _ _ q1
   exact ⟨k.keep p.1 p.2 q n1 n2 fun z=>(Rf _ z).elim ne' nf,n,ne',nf,d⟩
 · refine (I.bC b u z).mF (fun c v hc q=>?_) (fun _ y=>y) fun _ _ y=>y
   have hh:∃ u,H c=some u:=by
    rcases hc with y | y
    · exact ⟨u,by rw [y]; exact z⟩
    · exact ⟨_,y⟩
   obtain ⟨u',y⟩:=hh
   obtain ⟨n1,n2,n3⟩:=X0 c u' y
   exact k.keep c v q n1 n2 n3
theorem GR {M:Model} {A:Around} {E:Value→Shared→Prop} {n:Str} {i:Nat} {pos:Pos} {Q:Unit→Shared→Prop} (I:Inv X pins σ H s) (hN:X.N.Nodup) (hi:X.N[i]?=some n) (hl:X.env.scope.names.lookup n=some .local)
  (h:∀ s',Inv X pins (σ.set i none) H s'→Q () s'):wpAny M A (do bindName X.env n .none; unbindBehindTheSuite X.env n pos) Q E s:=by
 obtain ⟨m,hn,X2⟩:=id I.loc
 have Jd:(X.env.scope.kind == .class || (X.env.scope.kind == .module && X.env.locals != X.env.globals))=false:=by rw [I.ok.kind]; rfl
 have QN:i < σ.length:=by rw [I.len]; exact (gh.mp hi).1
 obtain ⟨oL,_,_,U',_⟩:=id hn
 refine wpAny_nameGoes_keeps hl hn Jd fun h' v Je hs=>h _ ⟨I.ok,I.os,I.bare,⟨fun b o q z hb hx=>?_,fun b o q z hb hx=>?_,I.base.free,fun b o q hx=>?_,I.base.iw,I.base.gG,I.base.iy⟩,⟨_,Je,fun j y v' e1 e2 e3=>?_⟩,fun y c q=>?_,I.free,I.d7,fun p hp=>?_,fun b ob q=>?_,by simpa using I.len⟩
 · exact (hs.2 b (gF (m_ (dq q) I.ok.above))).trans (I.base.keep b o q z hb hx)
 · obtain ⟨sl,q1⟩:=I.base.slot b o q z hb hx
   exact ⟨sl,(hs.2 b (gF (m_ (dq q) I.ok.above))).trans q1⟩
 · obtain ⟨o',q1⟩:=I.base.there b o q hx
   exact ⟨o',(hs.2 b (gF (m_ (dq q) I.ok.above))).trans q1⟩
 · have hj:j≠i:=fun z=>by
    subst z
    rw [x5 QN] at e2
    cases e2
   rw [t7 (Ne.symm hj)] at e2
   obtain ⟨u',r',q⟩:=X2 j y v' e1 e2 e3
   refine ⟨u',r',?_⟩
   rcases q with ⟨kk,q⟩ | ⟨kk,c,q,z⟩
   · refine .inl ⟨kk,?_⟩
     have:y≠n:=fun z=>hj (nM hN e1 (z▸hi))
     simp [this,q]
   · exact .inr ⟨kk,c,q,z.sameBut hs (I.Bq y c q)⟩
 · obtain ⟨w',z⟩:=I.cell y c q
   exact ⟨w',z.sameBut hs (I.Bq y c q)⟩
 · obtain ⟨q,z,ne,nf,d⟩:=I.pin p hp
   exact ⟨(hs.2 p.1 ne).trans q,z,ne,nf,d⟩
 · refine (I.bC b ob q).mF (fun c w' hc z=>(hs.2 c ?_).trans z) (fun _ z=>z) fun _ _ z=>z
   rintro rfl
   rcases hc with y | y
   · rw [← y,I.free] at q; cases q
   · rw [I.free] at y; cases y
end
section
variable {prog:Program} {w:World} {A:Around} {E:Value→Shared→Prop} {s:Shared} {K:PySem.W.Frag} {C S e:Addr} {tl ts:List Addr} {oe:Obj}
theorem vh {Q:Bool→Shared→Prop} (X:K.In s.heap) (xc:XC K C tl) (xs:XC K S ts) (hS:C=S∨S∈tl) (he:s.heap.get? e=some oe) (hc:oe.cls = .ref C) (h:Q true s):wpAny (model prog w) A (excMatches (.ref e) (.ref S)) Q E s:=by
 obtain ⟨nm,q',N,bs,sn,sub,ab,col,Ik,k0,k1,k2,k3,k5,oK⟩:=xc.obj
 obtain ⟨Zw,Zx,NS,Zy,Zz,X3,ZA,X4,X5,ZC,ZD,ZE,ZF,ZG,X6⟩:=xs.obj
 have oC:=X _ _ oK
 have oS:=X _ _ X6
 have f:=tc_notTuple
 have c1:(Value.ref S :: (ts.map Value.ref ++ EA)).contains (.type "BaseException")=true:=by simp
 have c2:(Value.ref C :: (tl.map Value.ref ++ EA)).contains (.ref S)=true:=by
  rcases hS with z | z
  · subst z; simp
  · simp [z]
 obtain ⟨hp,g,dr,tk,os⟩:=s
 unfold excMatches
 repeat (first | (with_reducible refine wpAny_loadPart_at he ?_; rw [hc]) | with_reducible refine wpAny_loadPart_at oS ?_ | (with_reducible refine wpAny_isSubtype_exc oS ?_; rw [c1]) | (with_reducible refine wpAny_isSubtype_exc oC ?_; rw [c2]) | wp_step)
 exact h
end
abbrev MJ (X:Cx) (e:Addr):Cx:={ X with A:=X.A.mark (some (.ref e)),calm:=false }
theorem Pd {X:Cx} (ok:X.Ok) (e:Addr):(MJ X e).Ok :=
 ⟨ok.mod,ok.kind,ok.glob,ok.blt,ok.above,ok.inj,ok.has,ok.Mv,(fun z=>by cases z),ok.frames,ok.Nd,ok.RP,ok.bs,ok.Ba,ok.zd,ok.Bp,ok.kf,ok.EM⟩
section
variable {X:Cx} {pins:List (Addr×Obj)} {σ:L2.St} {H:Hp} {s:Shared}
theorem Dh (I:Inv X pins σ H s) (e:Addr):Inv (MJ X e) pins σ H s:=⟨Pd I.ok e,I.os,I.bare,I.base,I.loc,I.cell,I.free,I.d7,I.pin,I.bC,I.len⟩
theorem Aj {H1:Hp} {s1:Shared} {e:Addr} {o:HO} (I1:Inv X pins σ H1 s1) (I:Inv X pins σ H s) (ne:s1.heap.get? e=none) (hx:X.ex=[]) (n3:H e=none) (new:bM X.prog X.w (upd H e o) s.heap e o):Inv X pins σ (upd H e o) s:=by
 have Iz:∀ b u,s1.heap.get? b=some u→b≠e:=fun b u q z=>by rw [z,ne] at q; cases q
 have f0:X.s₀.heap.get? e=none:=by
  cases q:X.s₀.heap.get? e with
  | none=>rfl
  | some o=>obtain ⟨o',q'⟩:=I1.base.there e o q (by rw [hx]; simp); rw [ne] at q'; cases q'
 refine ⟨I.ok,I.os,I.bare,pA I.base n3 f0,I.loc,I.cell,?_,fun x c q=>?_,fun p hp=>?_,md I.bC n3 new,I.len⟩
 · obtain ⟨m1,⟨o1,_,_,LH,_⟩,_⟩:=I1.loc
   rw [aH (Iz _ _ LH)]; exact I.free
 · obtain ⟨v1,o1,LH,_⟩:=I1.cell x c q
   rw [aH (Iz _ _ LH)]; exact I.d7 x c q
 · obtain ⟨q1,_,_,_,_⟩:=I1.pin p hp
   obtain ⟨q,z,r⟩:=I.pin p hp
   exact ⟨q,by rw [aH (Iz _ _ q1)]; exact z,r⟩
theorem Di {e:Addr} (ok:X.Ok) (I:Inv (MJ X e) pins σ H s):Inv X pins σ H s:=⟨ok,I.os,I.bare,I.base,I.loc,I.cell,I.free,I.d7,I.pin,I.bC,I.len⟩
end
section
variable {X:Cx} {S f:Addr} {ts:List Addr} {fd:FuncData} {ps:List Str} {k ix iz jn:Nat} {x z n cl fx:Str} {sp:Sp} {a:Expr} {p0 p1 p2 p3 p4 p5 p6 p7 p8 pos:Pos} {ta:TA}
def Ui (K:PySem.W.Frag) (S:Addr) (ix iz jn:Nat) (sp:Sp) (ta:TA):TS:=fun D σ H=>ta σ H fun vs H1=>sp vs H1 (fun v H2=>D.nx (σ.set ix (some v)) H2) fun c dd H2=>∃ C tl,c = .ref C∧XC K C tl∧(C=S∨S∈tl) ∧
 ∀ e,H1 e=none→H2 e=none→D.nx (((σ.set jn (some (.ref e))).set iz (some (.ref e))).set jn none) (upd H2 e (.ext (LG C e dd)))
theorem GS (st:X.stack=X.env :: X.outer∧X.env.frame=some X.env.locals) (F:cD X.prog X.w X.K X.mg X.base (Ah X.prog X.w) k f fd ps sp) (hr:bp k X.A) (hg:Gl X fx) (hm:X.mg fx=some (.ref f)) (hk:PySem.W.keepIn X.K (.ref f)=true) (hb:Binds X.K fd ps [])
  (ha:∀ E1,PA (X.iE E1) [a] ta) (hN:X.N.Nodup) (MK:X.N[ix]?=some x) (Uj:X.N[iz]?=some z) (LI:X.N[jn]?=some n) (lx:Loc X.env.scope x) (lz:Loc X.env.scope z) (ln:X.env.scope.names.lookup n=some .local)
  (Uk:Gl X cl) (Ul:X.mg cl=some (.ref S)) (xs:XC X.K S ts) (jM:∀ y,X.fn y=true) (hex:X.ex=[]) (d1:gg fx:=by decide) (d2:gg cl:=by decide) (d3:gg n:=by decide) (d4:tZ n:=by decide)
  (he:starEach [a] X.env=(false,eval a X.env) :: starEach [] X.env:=by rfl) (fM:(backTo p2 (starEach [] X.env)).any (·.1)=false:=by rfl)
  (LJ:swapsWith (.Call (.Name fx p1) [a] [] p2) (some (.Name x p0)) p3.line X.env=pure false:=by rfl) (tW:swapsWith (.Name n p5) (some (.Name z p6)) p7.line X.env=pure false:=by rfl) :
  PS X (.Try [.Assign [.Name x p0] (.Call (.Name fx p1) [a] [] p2) p3] [.ExceptHandler (some (.Name cl p4)) (some n) [.Assign [.Name z p6] (.Name n p5) p7] p8] [] [] pos) (Ui X.K S ix iz jn sp ta):=by
 intro pins s σ H D I h
 refine wpAny_Try_except ?_
 generalize X7:(fun (e:Value) (s₁:Shared)=>wpAny (model X.prog X.w) X.A (noteFrame e X.env) (fun _ s₂=>wpAny (model X.prog X.w) X.A (setFlight e none) (fun _ s₃=>wpAny (model X.prog X.w) X.A (handleBy e X.env [.ExceptHandler (some (.Name cl p4)) (some n) [.Assign [.Name z p6] (.Name n p5) p7] p8]) (SP X pins D) X.xe s₃) X.xe s₂) X.xe s₁)=E1
 refine wpAny_execs_cons ?_
 refine wpAny_Assign_Name ?_ LJ
 refine wpAny_Call_Name_kw (jd I hg hm ?_ d1)
 refine QH (h₀:=X.base) I.ok.mod.Mu hk (wpAny_mono (ha E1 p2 pins s σ H _ (I.iE E1) h) (fun us s1 ⟨vs,H1,J1,r,q⟩=>⟨J1.la,?_⟩) fun _ _ y=>y) he fM
 have I1:Inv X pins σ H1 s1:=J1.fL
 have hl:us.length=ps.length:=by rw [← r.length]; exact F.len _ _ _ _ q
 have KY:BindsTo s1 fd ⟨us,[]⟩ (ps.zip us):=by have:=hb s1 us I1.la (by rw [Eh]; exact hl); rw [Eh] at this; exact this
 refine wpAny_call (codeAny_mono (F.run X.A X.stack s1 H1 ⟨us,[]⟩ us vs _ _ hr I1.JI KY r q) fun rr s' hq=>?_)
 cases rr with
 | ok fl =>
   cases fl with
   | ret u =>
     obtain ⟨v,H2,I2,rv,q2⟩:=I1.after hq
     exact iD I2 hN MK lx rv (fun s3 I3=>wpAny_execs_nil (wpAny_execs_nil ⟨_,H2,I3,q2⟩)) (.inl (jM _))
   | _=>exact False.elim hq
 | error ev =>
   obtain ⟨e,C,dd,T,H2,rfl,os,bare,un,bC,fl,n1,n2,n3,n4,C',tl,eC,xc,hS,q3⟩:=hq
   cases eC
   have I2:Inv X pins σ H2 s':=I1.Bs os un bC bare fun b y=>nomatch y
   have n0:H1 e=none:=by
    cases y:H1 e with
    | none=>rfl
    | some o=>obtain ⟨u,y2⟩:=kT (I1.bC e o y); rw [n1] at y2; cases y2
   have Ez:X.A.frames=some (X.env :: X.outer):=by rw [← st.1]; exact I.ok.frames
   have sf:s'.heap.FunFrames X.base (X.env :: X.outer):=by have:=I2.stack; rw [st.1] at this; exact this
   show E1 (.ref e) s'
   rw [← X7]
   refine yN Ez sf st.2 fl fun h2 T2 f2 t2 k2=>?_
   have I3:Inv X pins σ H2 { s' with heap:=h2 }:=xi I1 I2 st (by rw [st.1]; exact k2) n1 (fun a y=>by cases y; exact n2) n3 (fun a y=>by cases y; exact n4)
   have t3:s1.heap.get? T2=none:=by
    cases y:s1.heap.get? T2 with
    | none=>rfl
    | some o =>
      by_cases y3:∃ u,H1 T2=some u
      · obtain ⟨o',y4⟩:=un.there T2 o y (by simp)
        rw [t2] at y4; cases y4
      · obtain ⟨o',y4⟩:=un.there T2 o y (by simp)
        rw [t2] at y4; cases y4
   have t4:H2 T2=none:=by
    cases y:H2 T2 with
    | none=>rfl
    | some o=>obtain ⟨u,y2⟩:=kT (bC T2 o y); rw [t2] at y2; cases y2
   refine tu (s:={ s' with heap:=h2 }) f2 fun h3 f3 k3=>?_
   have up:∀ {a b:Heap} {T:Addr},Kp [] e (some T) a b→Kp (ke X.stack) e (some T) a b:=fun {a b T} kk=>⟨fun b o q n1 n2 _=>kk.keep b o q n1 n2 (by simp),fun b o q _ n2 n3=>⟨o.slots,kk.keep b o q n2 n3 (by simp)⟩⟩
   have I4:Inv X pins σ H2 { s' with heap:=h3 }:=xi (s:={ s' with heap:=h2 }) I1 I3 st (up k3) n1 (fun a y=>by cases y; exact t3) n3 (fun a y=>by cases y; exact t4)
   obtain ⟨oe,ZH,Rc,X8,ZI,ZJ,_⟩:=id f3
   refine wpAny_handleBy_cons (codeAny_handlers_test ?_) (by intro y; cases y)
   refine jd (X:=MJ X e) (s:={ s' with heap:=h3 }) (Dh I4 e) Uk Ul ?_ d2
   refine vh (s:={ s' with heap:=h3 }) I4.la xc xs hS Rc X8 ?_
   refine codeAny_handlers_suite_as ?_
   refine tu (s:={ s' with heap:=h3 }) f3 fun h4 f4 k4=>?_
   have I5:Inv X pins σ H2 { s' with heap:=h4 }:=xi (s:={ s' with heap:=h3 }) I1 I4 st (up k4) n1 (fun a y=>by cases y; exact t3) n3 (fun a y=>by cases y; exact t4)
   obtain ⟨of,X9,V8,of2,X_,X',_⟩:=id f4
   have I6:Inv X pins σ (upd H2 e (.ext (LG C e dd))) { s' with heap:=h4 }:=Aj (s:={ s' with heap:=h4 }) I1 I5 n1 hex n3 ⟨⟨of,X9,V8,of2,X_,X'⟩,⟨_,V8⟩,fun g1 g2 ⟨o,v,y1,y2⟩ kk=>⟨o,v,kk _ y1,y2⟩⟩
   refine iD I6 hN LI (.inl ln) (v:=.ref e) rfl (fun s5 I7=>?_) (.inl (jM _))
   have jl:jn < (σ.set jn (some (V.ref e))).length:=by rw [Hu,I.len]; exact (gh.mp LI).1
   have ev:(σ.set jn (some (V.ref e)))[jn]?=some (some (.ref e)):=by rw [x5 (by rw [Hu] at jl; exact jl)]
   have pw:=vS (X:=(MJ X e).ni) (pos:=p7) (pos':=p6) (e:=.Name n p5) hN Uj lz (cQ (X:=(MJ X e).ni) (i:=jn) LI (.inl ln) d3 d4) tW (.inl (jM _))
   refine wpAny_execs_cons (wpAny_mono (pw pins s5 _ _ { nx:=fun σ' H'=>σ'=(σ.set jn (some (.ref e))).set iz (some (.ref e))∧H'=upd H2 e (.ext (LG C e dd)),rt:=fun _ _=>False } ((Dh I7 e).iE _) ⟨_,ev,rfl,rfl⟩) (fun fl s6 y=>?_) fun ev s6 y=>?_)
   · cases fl with
     | next =>
       obtain ⟨σ7,H7,I8,rfl,rfl⟩:=y
       refine wpAny_execs_nil ?_
       show wpAny _ _ _ _ _ _
       refine GR (Di I.ok I8.fL) hN LI ln fun s8 I9=>⟨_,_,I9,q3 e n0 n3⟩
     | ret u=>obtain ⟨_,_,_,_,_,y⟩:=y; exact y.elim
     | _=>obtain ⟨_,_,_,y⟩:=y; exact y.elim
   · exact False.elim y
end
end EX
namespace VT
open PySem PySem.Spec PyProof.Rows L2
def Pe (f:Str):List Str→List Str
 | []=>[f]
 | n :: ns=>if n=f then n :: ns else n :: Pe f ns
def Pf {α:Type} (f:Str) (u:α):List Str→List α→List α
 | n :: ns,t :: ts=>if n=f then u :: ts else t :: Pf f u ns ts
 | _,_=>[u]
section
variable {K:PySem.W.Frag} {H:Hp} {A:List Addr} {f:Str}
end
section
variable {X:Cx} {Z:Zc} {e:Expr} {es:List Expr} {C:Addr} {f:Str} {pos:Pos}
def Lo (n:Nat) (C:Addr) (f:Str) (fe:FE):FS:=fun d ρ=>match ρ[n]? with
 | some (some (.ins C' ns ts,true))=>C'=C∧fe ρ fun v=>ts.length < 1000∧d.nx (ρ.set n (some (.ins C' (Pe f ns) (Pf f v ns ts),true)))
 | _=>False
def Rh (K:PySem.W.Frag) (C:Addr) (n:Nat) (G:List T→(T→Prop)→Prop):Sp:=qo K (true :: List.replicate n false) fun ts q=>match ts with
 | .ins C' [] [] :: us=>C'=C∧G us fun u=>q [u] (.vw .bh)
 | _=>False
end
structure Dc (K:PySem.W.Frag) (mg:Str→Option Value) (cls qual:Str) (st:Stmt) (ps:List Str) (C f:Addr) (fd:FuncData):Prop where
 F:Bf K "__init__" qual st f fd
 m:mg cls=some (.ref C)
 b:Binds K fd ps []
 M:Mk K C f
def Um (P:Program) (w:World) (K:PySem.W.Frag) (mg:Str→Option Value) (base:Heap) (cls:Str) (C:Addr) (ps:List Str) (k n:Nat) (G:List T→(T→Prop)→Prop):Prop :=
 ∃ f fd,Mk K C f∧mg cls=some (.ref C)∧Binds K fd ps []∧cD P w K mg base iK k f fd ps (Rh K C n G)
section
variable {P:Program} {w:World} {K:PySem.W.Frag} {mg:Str→Option Value} {base:Heap}
theorem Dc.ji {cls qual:Str} {st:Stmt} {ps:List Str} {C f:Addr} {fd:FuncData} {k n:Nat} {G:List T→(T→Prop)→Prop} (D:Dc K mg cls qual st ps C f fd) (F:cD P w K mg base iK k f fd ps (Rh K C n G)):Um P w K mg base cls C ps k n G :=
 ⟨f,fd,D.M,D.m,D.b,F⟩
end
section
variable {X:Cx}
end
section
variable {X:Cx} {Z:Zc} {a:Expr} {fa:FE} {p1 apos F_ zF:Pos}
end
structure GU (K:PySem.W.Frag) (H H':Hp) (Ox:List Addr) (us:List T) (p:Addr) (ls:List Addr):Prop where
 same:aJ H H'
 tup:H' p=some (.tup (ls.map V.ref))
 nd:ls.Nodup
 new:∀ a∈ls,H a=none
 Ya:Paired (fun a t=>cq K H' (ls ++ Ox) a t) ls us
structure Uo (K:PySem.W.Frag) (Z:Zc) (tm:List (T×V)) (d:HV) (dp:List T→Prop) (D:Ends):Prop where
 fin:Fin K Z tm d D
 dp:∀ us,dp us→∀ p ls H',GU K Z.H0 H' Z.Ox us p ls→D.rt (.ref p) H'
abbrev Pg:=HV→(List T→Prop)→En→Prop
def V9 (X:Cx) (Z:Zc) (tm:List (T×V)) (g:Pg):TS:=fun D σ H=>∃ ρ O d dp,az X.K Z tm O ρ σ H∧g d dp ρ∧Uo X.K Z tm d dp D
def GW (X:Cx) (Z:Zc) (st:List Stmt) (g:Pg):Prop:=Bx fun tm=>nh X st (V9 X Z tm g)
instance {X:Cx} {Z:Zc} {st:List Stmt} {g:Pg}:CoeFun (GW X Z st g) fun _=>∀ tm,nh X st (V9 X Z tm g):=⟨fun h=>Bx.h h⟩
section
variable {X:Cx} {Z:Zc} {st:Stmt} {rest:List Stmt} {g:FS} {u:Pg} {pos:Pos}
theorem GW.weak {u':Pg} (h:GW X Z rest u) (hw:∀ d dp ρ,u' d dp ρ→u d dp ρ):GW X Z rest u':=.mk fun tm=>nh.um (h tm) fun D σ H ⟨ρ,O,d,dp,I,q,F⟩=>⟨ρ,O,d,dp,I,hw d dp ρ q,F⟩
end
section
variable {P:Program} {w:World} {K:PySem.W.Frag} {mg:Str→Option Value} {base:Heap}
end
section
variable {X:Cx} {Z:Zc} {k n:Nat} {f:Addr} {fd:FuncData} {ps:List Str} {G:List T→(List T→Prop)→Prop} {x:Str} {p pos:Pos} {e:Expr} {es:List Expr} {g:FA}
def lD (X:Cx) (Z:Zc) (tm:List (T×V)) (f:En→(List T→Prop)→Prop):TE:=fun σ H Q=>∃ ρ O q,az X.K Z tm O ρ σ H∧f ρ q∧∀ us,q us→∀ p ls H',GU X.K H H' (av Z O) us p ls→Q (.ref p) H'
def VD (X:Cx) (Z:Zc) (e:Expr) (f:En→(List T→Prop)→Prop):Prop:=Bx fun tm=>PE X e (lD X Z tm f)
instance {X:Cx} {Z:Zc} {e:Expr} {f:En→(List T→Prop)→Prop}:CoeFun (VD X Z e f) fun _=>∀ tm,PE X e (lD X Z tm f):=⟨fun h=>Bx.h h⟩
theorem GU.at {K:PySem.W.Frag} {tm:List (T×V)} {O:List (Option Addr)} {ρ:En} {σ:St} {H H':Hp} {us:List T} {p:Addr} {ls:List Addr} (I:az K Z tm O ρ σ H) (D:GU K H H' (av Z O) us p ls):At K H' (av Z O) (.tup us) (.ref p):=by
 refine bz (dw.of D.tup) (aG.iff.mpr ?_)
 have key:∀ {Ri:List Addr} {Ra:List T},(∀ a∈Ri,a∈ls)→Paired (fun a t=>cq K H' (ls ++ av Z O) a t) Ri Ra→Paired (fun v t=>At K H' (av Z O) t v) (Ri.map V.ref) Ra:=by
  intro Ri Ra sub h
  induction h with
  | nil=>exact .nil
  | cons r t ih =>
    refine .cons ((r.bq fun b hb=>k8 _ hb).at fun z=>?_) (ih fun a ha=>sub a (jc _ ha))
    exact I.Kb _ z (D.new _ (sub _ jz))
 exact key (fun _ h=>h) D.Ya
def Ph (f:En→(List T→Prop)→Prop):FP:=fun ρ Q=>f ρ fun us=>Q (.vw (.tup us))
theorem VD.vp {f:En→(List T→Prop)→Prop} (h:VD X Z e f):VP X Z e (Ph f):=.mk fun tm=>PE.weak (h tm) fun σ H Q ⟨ρ,O,q,I,hf,k⟩ =>
 ⟨ρ,O,_,I,hf,fun us hu p ls H' D=>k _ hu _ H' D.same ⟨I.same D.same,D.at I⟩⟩
end
section
variable {X:Cx} {Z:Zc}
end
section
variable {X:Cx} {Z:Zc}
end
section
variable {X:Cx} {Z:Zc} {st:Stmt} {cp:List Stmt} {g:FS}
end
section
variable {X:Cx} {Z:Zc} {o e:Expr} {fo fe:FE} {apos bf:Pos}
end
end VT
namespace VT
open PySem PySem.Spec PyProof.Rows L2 PySem.MeetsSeq PySem.SeqAt
section
variable {X:Cx}
end
section
variable {X:Cx} {Z:Zc} {o e:Expr} {fo:FE} {apos bf:Pos}
end
def yO (z:Bool):Value→Bool
 | .bool y=>y == z
 | _=>false
theorem pC:∀ {bs:List Bool} {us:List Value},Vals (bs.map V.bl) us→us=bs.map Value.bool
 | [],_,h=>by cases h; rfl
 | b :: bs,_,h=>by
   cases h with
   | cons r t=>rw [jr,← pC t]; cases r; rfl
theorem tw {K:PySem.W.Frag} {H:Hp} {A:List Addr}:∀ {bs:List Bool} {vs:List V},aG K H A (bs.map .bl) vs→vs=bs.map V.bl
 | [],vs,h=>by simpa only [Hy,aG] using h
 | y :: ys,vs,h=>by
   simp only [jr,aG,At] at h
   obtain ⟨v,r,rfl,rfl,h⟩:=h
   rw [tw h]; rfl
section
variable {X:Cx}
theorem Ak:Be X "list.count" (fun x xs H Q=>∃ (p:Addr) (ys:List Bool) (z:Bool),x = .ref p∧xs=[.bl z]∧eI X.K H p (ys.map V.bl)∧Q (.int ((ys.countP (· == z):Nat):Int)) H):=by
 intro pins s σ H x xs v us Q I rx rs h
 obtain ⟨p,ys,z,rfl,rfl,hq,q⟩:=h
 cases rx
 obtain ⟨u,rfl,ru⟩:=vals1 rs
 obtain rfl:u=Value.bool z:=ru
 obtain ⟨aK,rv,pl,_⟩:=I.list hq
 obtain ⟨⟨cls,dd,data,sl⟩,ho,hc,n,hd⟩:=pl.isList
 simp only at hc hd
 subst hc hd
 have e:=pC rv
 subst e
 refine call_meets PySem.F.slot_list_count ⟨_,ho,rfl⟩ PySem.F.entry_list_count (PySem.F.args_list_count_2 _ _) (list_countAt p (ys.map Value.bool).toArray n dd sl (.bool z) (yO z)) ⟨ho,fun y hy=>?_,?_⟩
 · have NU:y∈ys.map Value.bool:=by simpa using hy
   obtain ⟨b,_,rfl⟩:=y_.mp NU
   exact EqAt.bool_bool b z
 · have e:((ys.map Value.bool).toArray.toList.countP (yO z))=ys.countP (· == z):=by rw [show (ys.map Value.bool).toArray.toList=ys.map Value.bool from rfl,List.countP_map]; rfl
   rw [e]
   exact ⟨.int ((ys.countP (· == z):Nat):Int),H,I.tok _,⟨_,rfl⟩,q⟩
theorem Al:Be X "list.index" (fun x xs H Q=>∃ (p:Addr) (ys:List Bool) (z:Bool) (j:Nat),x = .ref p∧xs=[.bl z]∧eI X.K H p (ys.map V.bl)∧ys[j]?=some z∧(∀ i,i < j→ys[i]?≠some z)∧ys.length≤1000∧Q (.int (j:Int)) H):=by
 intro pins s σ H x xs v us Q I rx rs h
 obtain ⟨p,ys,z,j,rfl,rfl,hq,hj,JM,hl,q⟩:=h
 cases rx
 obtain ⟨u,rfl,ru⟩:=vals1 rs
 obtain rfl:u=Value.bool z:=ru
 obtain ⟨aK,rv,pl,_⟩:=I.list hq
 obtain ⟨⟨cls,dd,data,sl⟩,ho,hc,n,hd⟩:=pl.isList
 simp only at hc hd
 subst hc hd
 have e:=pC rv
 subst e
 have Rj:j < ys.length:=(gh.mp hj).1
 have key:∀ (i:Nat) (hi:i < (ys.map Value.bool).toArray.size),yO z (ys.map Value.bool).toArray[i]=decide (ys[i]?=some z):=by
  intro i hi
  have HJ:i < ys.length:=by simpa using hi
  have e3:(ys.map Value.bool).toArray[i]=Value.bool ys[i]:=by simp
  rw [e3,j_ HJ]
  show (ys[i] == z)=_
  rw [Hv]
  simp
 refine call_meets PySem.F.slot_list_index ⟨_,ho,rfl⟩ PySem.F.entry_list_index (PySem.F.args_list_index_2 _ _)
  (list_indexAt p (ys.map Value.bool).toArray n dd sl (.bool z) (yO z) j (by simpa using Rj) (by omega) ?_ ?_) ⟨ho,fun y hy=>?_,⟨.int (j:Int),H,I.tok _,⟨_,rfl⟩,q⟩⟩
 · rw [key]; exact decide_eq_true hj
 · intro m hm fN
   rw [key]; exact decide_eq_false (JM m fN)
 · have NU:y∈ys.map Value.bool:=by simpa using hy
   obtain ⟨b,_,rfl⟩:=y_.mp NU
   exact EqAt.bool_bool b z
end
section
variable {X:Cx} {Z:Zc} {o e:Expr} {fo:FE} {apos bf:Pos}
def GX (fo:FE) (g:FA):FP:=fun ρ Q=>fo ρ fun x=>match x with
 | .lst ts=>g ρ fun y=>∃ (ys:List Bool) (z:Bool),ts=ys.map .bl∧y=[.bl z]∧Q (.vw (.int ((ys.countP (· == z):Nat):Int)))
 | _=>False
theorem vi {g:FA} (ho:VR X Z o fo) (he:Es X Z [e] g) (eJ:attributeBase o "count" X.env (eval o X.env)=eval o X.env:=by rfl)
  (nS:((backTo bf (starEach [e] X.env)).all (fun x=>!x.1) && (backToKw bf (keywordEach [] X.env)).all (fun x=>x.1.isSome)
    && decide (([e]:List Expr).length+([]:List Keyword).length+(if ([]:List Keyword).isEmpty then 0 else 1) < 30))=true:=by rfl)
  (eM:(apos.endLine == bf.line)=true:=by rfl) (hs:starEach [e] X.env=(false,eval e X.env) :: starEach [] X.env:=by rfl) (eO:(backTo bf (starEach [] X.env)).any (·.1)=false:=by rfl) :
  VP X Z (.Call (.Attribute o "count" apos) [e] [] bf) (GX fo g):=.mk fun tm =>
 PE.weak (ub QC PySem.F.slot_list_count PySem.F.type_list_count Ak (ho tm) (he tm) eJ nS eM hs eO) fun σ H Q ⟨ρ,O,q,I,hf,k⟩ =>
  ⟨ρ,O,_,I,hf,fun x hx v H1 s1 a1=>by
    split at hx
    · rename_i ts
      obtain ⟨p,vs,rfl,h1,h2⟩:=a1.lst
      refine ⟨.inl ⟨rfl,vs,h1⟩,ρ,O,_,I.same s1,hx,fun y hy w H2 s2 a2=>?_⟩
      obtain ⟨ys,z,rfl,rfl,hq⟩:=hy
      obtain ⟨u,rfl,a3⟩:=cA a2
      have ev:=tw h2
      subst ev
      have eu:=a3.bl
      subst eu
      exact ⟨p,ys,z,rfl,rfl,h1.imp (fun z=>Rd.same s2 z) id,k _ hq _ H2 (s1.trans s2) ⟨(I.same s1).same s2,bE⟩⟩
    · exact hx.elim⟩
def GY (fo:FE) (g:FA):FP:=fun ρ Q=>fo ρ fun x=>match x with
 | .lst ts=>g ρ fun y=>∃ (ys:List Bool) (z:Bool) (j:Nat),ts=ys.map .bl∧y=[.bl z]∧ys[j]?=some z∧(∀ i,i < j→ys[i]?≠some z)∧ys.length≤1000∧Q (.vw (.int (j:Int)))
 | _=>False
theorem vj {g:FA} (ho:VR X Z o fo) (he:Es X Z [e] g) (eJ:attributeBase o "index" X.env (eval o X.env)=eval o X.env:=by rfl)
  (nS:((backTo bf (starEach [e] X.env)).all (fun x=>!x.1) && (backToKw bf (keywordEach [] X.env)).all (fun x=>x.1.isSome)
    && decide (([e]:List Expr).length+([]:List Keyword).length+(if ([]:List Keyword).isEmpty then 0 else 1) < 30))=true:=by rfl)
  (eM:(apos.endLine == bf.line)=true:=by rfl) (hs:starEach [e] X.env=(false,eval e X.env) :: starEach [] X.env:=by rfl) (eO:(backTo bf (starEach [] X.env)).any (·.1)=false:=by rfl) :
  VP X Z (.Call (.Attribute o "index" apos) [e] [] bf) (GY fo g):=.mk fun tm =>
 PE.weak (ub QC PySem.F.slot_list_index PySem.F.type_list_index Al (ho tm) (he tm) eJ nS eM hs eO) fun σ H Q ⟨ρ,O,q,I,hf,k⟩ =>
  ⟨ρ,O,_,I,hf,fun x hx v H1 s1 a1=>by
    split at hx
    · rename_i ts
      obtain ⟨p,vs,rfl,h1,h2⟩:=a1.lst
      refine ⟨.inl ⟨rfl,vs,h1⟩,ρ,O,_,I.same s1,hx,fun y hy w H2 s2 a2=>?_⟩
      obtain ⟨ys,z,j,rfl,rfl,hj,JM,hl,hq⟩:=hy
      obtain ⟨u,rfl,a3⟩:=cA a2
      have ev:=tw h2
      subst ev
      have eu:=a3.bl
      subst eu
      exact ⟨p,ys,z,j,rfl,rfl,h1.imp (fun z=>Rd.same s2 z) id,hj,JM,hl,k _ hq _ H2 (s1.trans s2) ⟨(I.same s1).same s2,bE⟩⟩
    · exact hx.elim⟩
end
end VT
namespace EX
open PySem PySem.Spec PySem.Calls PyProof.Rows L2 VT
open PySem.W (kitOne InstAt)
structure Yb (K:PySem.W.Frag) (C:Addr):Prop where
 xc:∃ tl,XC K C tl
 xf:XF K C
structure Ex (K:PySem.W.Frag) (H:Hp) (e C:Addr) (dd:Option Addr) (p:Option Int):Prop where
 ex:H e=some (.ext (LG C e dd))
 pl:GQ H dd p
 kl:Yb K C
theorem Ex.same {K:PySem.W.Frag} {H H':Hp} {e C:Addr} {dd:Option Addr} {p:Option Int} (x:Ex K H e C dd p) (s:aJ H H'):Ex K H' e C dd p :=
 ⟨s _ _ x.ex,by cases p with | none=>exact x.pl | some i=>obtain ⟨d,h1,h2⟩:=x.pl; exact ⟨d,h1,s _ _ h2⟩,x.kl⟩
section
variable {X:Cx} {Z:Zc} {e C:Addr} {dd:Option Addr} {pp:Option Int}
theorem GZ {pins:List (Addr×Obj)} {σ:L2.St} {H:Hp} {s:Shared} (I:Inv X pins σ H s) (x:Ex X.K H e C dd pp):∃ oe od,InstAt s.heap e oe C od:=by
 obtain ⟨⟨oe,vs,h1,h2,h3,h4⟩,_,_⟩:=I.bC e _ x.ex
 have nc:PySem.W.notCls oe=true:=by unfold PySem.W.notCls; rw [h4]
 cases pp with
 | none =>
   have pl:dd=none:=x.pl
   exact ⟨oe,none,h1,h2,nc,by rw [h3,pl]; trivial⟩
 | some i =>
   obtain ⟨d,rfl,hd⟩:=x.pl
   obtain ⟨mA,⟨o,_,_,ho,_⟩,_⟩:=I.bC d _ hd
   exact ⟨oe,some o,h1,h2,nc,by rw [h3]; exact ho⟩
def Up (K:PySem.W.Frag) (cv:V) (c:Value) (e C:Addr) (dd:Option Addr) (pp:Option Int) (b:Bool):List V→Hp→VK→Prop:=fun xs H Q=>xs=[.ref e,cv]∧Ex K H e C dd pp∧kitOne K (.ref C) c=some b∧Q (.bl b) H
theorem Dj {cv:V} {c:Value} {b:Bool} (rc:∀ u,RelV cv u→u=c):cU X (.builtin "isinstance") (Up X.K cv c e C dd pp b):=by
 rintro pins s σ H xs us Q I r ⟨rfl,x,hk,q⟩
 obtain ⟨u,w',rfl,rx,ry⟩:=vals2 r
 obtain rfl:u=Value.ref e:=rx
 obtain rfl:=rc _ ry
 obtain ⟨oe,od,J⟩:=GZ I x
 obtain ⟨tl,xc⟩:=x.kl.xc
 exact GK I.la xc x.kl.xf J hk fun tk=>⟨.bl b,H,I.tok _,rfl,q⟩
def Uq (i:Nat) (e:Addr) (b:Bool):FP:=fun ρ Q=>ρ[i]?=some (some (.ob e,false))∧Q (.vw (.bl b))
theorem gc (i:Nat) {x:Str} {ce:Expr} {cv:V} {c:Value} {b:Bool} {p1 p2 pos:Pos} (xz:Ex X.K Z.H0 e C dd pp) (hP:Z.P=[]) (rc:∀ u,RelV cv u→u=c) (hk:kitOne X.K (.ref C) c=some b) (hg:Gl X "isinstance") (hm:X.mg "isinstance" = none) (hc:PE X ce (tC cv))
  (hN:X.N[i]?=some x:=by rfl) (hv:rR X.env.scope x:=by first | exact Or.inl rfl | exact Or.inr (Or.inl rfl) | exact Or.inr (Or.inr rfl)) (hd:gg x:=by decide) (iA:tZ x:=by decide)
  (LJ:starEach [.Name x p1,ce] X.env=(false,eval (.Name x p1) X.env) :: starEach [ce] X.env:=by rfl) (tW:starEach [ce] X.env=(false,eval ce X.env) :: starEach [] X.env:=by rfl) (fM:(backTo pos (starEach [ce] X.env)).any (·.1)=false:=by rfl) :
  VP X Z (.Call (.Name "isinstance" p2) [.Name x p1,ce] [] pos) (Uq i e b):=.mk fun tm =>
 PE.weak (kj (Dj (e:=e) (C:=C) (dd:=dd) (pp:=pp) rc) hg hm kB (bu (cQ hN hv hd iA) (bu hc cR tW) LJ) (by decide) (by decide) LJ fM) fun σ H Q ⟨ρ,O,q,I,hf,k⟩=>by
  obtain ⟨h1,h2⟩:=hf
  obtain ⟨o,s,h3,h4,rfl,v,rfl,h5⟩:=I.sl i _ h1
  simp only [At] at h5
  subst h5
  exact ⟨_,h4,rfl,xz.same (rG hP I),hk,k _ h2 _ H (aJ.refl H) ⟨I,cu⟩⟩
def Yc (i:Nat) (e:Addr) (n:Int):FP:=fun ρ Q=>ρ[i]?=some (some (.ob e,false))∧Q (.vw (.int n))
theorem Dk (i:Nat) {x:Str} {n:Int} {p1 pos:Pos} (xz:Ex X.K Z.H0 e C dd (some n)) (hP:Z.P=[]) (hN:X.N[i]?=some x:=by rfl) (hv:rR X.env.scope x:=by first | exact Or.inl rfl | exact Or.inr (Or.inl rfl) | exact Or.inr (Or.inr rfl)) (hd:gg x:=by decide) (iA:tZ x:=by decide)
  (hb:attributeBase (.Name x p1) "place" X.env (eval (.Name x p1) X.env)=eval (.Name x p1) X.env:=by rfl):VP X Z (.Attribute (.Name x p1) "place" pos) (Yc i e n):=.mk fun tm pins s σ H Q J ⟨ρ,O,q,I,hf,k⟩=>by
 obtain ⟨h1,h2⟩:=hf
 obtain ⟨o,s',h3,h4,rfl,v,rfl,h5⟩:=I.sl i _ h1
 simp only [At] at h5
 subst h5
 have xh:=xz.same (rG hP I)
 have pv:=cQ (pos:=p1) hN hv hd iA pins s σ H (fun v H1=>v = .ref e∧H1=H) J ⟨_,h4,rfl,rfl⟩
 refine E5 hb (bT pv fun u s1 ⟨v,H1,J1,rv,e1,e2⟩=>?_)
 subst e1 e2
 obtain rfl:u=Value.ref e:=rv
 obtain ⟨d,rfl,hd⟩:=xh.pl
 obtain ⟨⟨oe,vs,g1,g2,g3,g4⟩,_,_⟩:=J1.bC e _ xh.ex
 obtain ⟨mA,ns,rel⟩:=J1.bC d _ hd
 obtain ⟨tl,xc⟩:=xh.kl.xc
 obtain ⟨cd,c1,c2,_⟩:=xc.cls
 have rp:jK (some (V.int n)) (mA "place"):=rel "place"
 cases hm:mA "place" with
 | none=>rw [hm] at rp; exact rp.elim
 | some u =>
   rw [hm] at rp
   obtain ⟨t,rfl⟩:=(show ∃ t,u=Value.int n t from rp)
   exact Ae J1.la xh.kl.xf (by rw [c1]; exact c2) g1 g2 (by unfold PySem.W.notCls; rw [g4]) g3 ns hm rfl ⟨.int n,H1,J1.tok _,⟨t,rfl⟩,k _ h2 _ H1 (aJ.refl H1) ⟨I,bE⟩⟩
end
def Rk (K:PySem.W.Frag) (G:Addr→Option Int→(T→Prop)→Prop):Sp:=fun vs H Q _=>∃ e C dd p q,vs=[.ref e]∧Ex K H e C dd p∧G C p q∧∀ t,q t→∀ v H',aJ H H'→At K H' [] t v→Q v H'
section
variable {P:Program} {w:World} {K:PySem.W.Frag} {mg:Str→Option Value} {base:Heap}
theorem Yd {x qual:Str} {st:Stmt} {f:Addr} {fd:FuncData} {N ps:List Str} {k:Nat} {G:Addr→Option Int→(T→Prop)→Prop} (F:Bf K x qual st f fd) (S:aI N ps (aj st)) (hn:1=ps.length)
  (iG:∀ (bD:Value) (A:Around) (outer:List Env) (s:Shared) (H:Hp) (E:XK),bp k (A.deeper (envOfC qual (aj st) s.heap.objs.size f bD))→∀ e C dd p q,Ex K H e C dd p→G C p q →
    ∃ g,ky (dB iK P w K mg base N qual (aj st) f bD A outer s H E).ni ⟨H,[],[]⟩ (cf st) g∧g { nx:=fun _=>q .bh,rt:=fun _ r=>∃ t,r = .vw t∧q t } (some (.ob e,false) :: List.replicate (N.length - 1) none)) :
  cD P w K mg base iK (k+1) f fd ps (Rk K G):=by
 refine F.ok S (fun vs H Q E h=>?_) (fun bD A outer s H vs Q E hr h=>?_)
 · obtain ⟨e,C,dd,p,q,rfl,_⟩:=h
   exact hn
 · obtain ⟨e,C,dd,p,q,rfl,xh,hG,kk⟩:=h
   obtain ⟨g,h1,h2⟩:=iG bD A outer s H E hr e C dd p q xh hG
   refine ⟨_,h1 [],?_⟩
   have ar:dF K H [] [false] [] [.ob e] [.ref e]:=⟨.ob e,[],.ref e,[],rfl,rfl,by simp only [At],rfl,rfl,rfl⟩
   exact oa (X:=(dB iK P w K mg base N qual (aj st) f bD A outer s H E).ni) (N:=N) (fs:=[false]) (as:=[]) (Ox:=[]) (q:=fun _ r=>∃ t,r = .vw t∧q t) IX (fun _ z=>nomatch z) (fun _ z=>nomatch z) ar
    (fun us r ⟨t,er,hq⟩ v H' fr z=>by subst er; exact kk t hq v H' (fun b o y=>fr b o y (by simp)) z.1) (by
      have e1:g { nx:=fun _=>∃ t,Rt.vw T.bh = .vw t∧q t,rt:=fun _ r=>∃ t,r = .vw t∧q t } (some (.ob e,false) :: List.replicate (N.length - 1) none):=by
       have:(∃ t,Rt.vw T.bh = .vw t∧q t)=q .bh:=by
        apply propext
        constructor
        · rintro ⟨t,y,z⟩; cases y; exact z
        · exact fun z=>⟨_,rfl,z⟩
       rw [this]; exact h2
      exact e1)
end
section
variable {X:Cx} {Z:Zc} {e C f:Addr} {dd:Option Addr} {pp:Option Int} {fd:FuncData} {ps:List Str} {k:Nat}
def LK (i:Nat) (e C:Addr) (pp:Option Int) (G:Addr→Option Int→(T→Prop)→Prop):FP:=fun ρ Q=>ρ[i]?=some (some (.ob e,false))∧G C pp fun t=>kr t=true∧Q (.vw t)
theorem Dl (i:Nat) {x y:Str} {p1 p2 pos:Pos} {G:Addr→Option Int→(T→Prop)→Prop} (xz:Ex X.K Z.H0 e C dd pp) (hP:Z.P=[]) (F:cD X.prog X.w X.K X.mg X.base iK k f fd ps (Rk X.K G)) (hr:bp k X.A) (hg:Gl X y) (hm:X.mg y=some (.ref f)) (hk:PySem.W.keepIn X.K (.ref f)=true) (hb:Binds X.K fd ps [])
  (hN:X.N[i]?=some x:=by rfl) (hv:rR X.env.scope x:=by first | exact Or.inl rfl | exact Or.inr (Or.inl rfl) | exact Or.inr (Or.inr rfl)) (hd:gg x:=by decide) (iA:tZ x:=by decide)
  (nP:gg y:=by decide) (he:starEach [.Name x p1] X.env=(false,eval (.Name x p1) X.env) :: starEach [] X.env:=by rfl) (fM:(backTo pos (starEach [] X.env)).any (·.1)=false:=by rfl) :
  VP X Z (.Call (.Name y p2) [.Name x p1] [] pos) (LK i e C pp G):=.mk fun tm=>PE.weak (ki F hr hg hm hk hb .nil ud (bu (cQ hN hv hd iA) cR he) nP he fM) fun σ H Q ⟨ρ,O,q,I,hf,kk⟩=>by
 obtain ⟨h1,h2⟩:=hf
 obtain ⟨o,s',h3,h4,rfl,v,rfl,h5⟩:=I.sl i _ h1
 simp only [At] at h5
 subst h5
 refine ⟨_,h4,e,C,dd,pp,_,rfl,xz.same (rG hP I),h2,fun t ⟨hi,hq⟩ v H' s a=>?_⟩
 exact kk _ hq v H' s ⟨I.same s,At.kr hi a⟩
end
theorem G0 {K:PySem.W.Frag} {Z:Zc} {tm:List (T×V)} {O:List (Option Addr)} {ρ:En} {σ:L2.St} {H:Hp} (hP:Z.P=[]) (I:az K Z tm O ρ σ H) (hv:∀ (i:Nat) (t:T),ρ[i]?≠some (some (t,true))):az K ⟨H,[],Z.Ox⟩ tm O ρ σ H:=by
 have r0:roots O=[]:=by
  cases hr:roots O with
  | nil=>rfl
  | cons a r =>
    have ha:a∈roots O:=by rw [hr]; exact jz
    obtain ⟨i,hi⟩:=MZ.mp (aN.mp ha)
    have hl:=(gh.mp hi).1
    have Nf:i < ρ.length:=by rw [← I.lO]; exact hl
    obtain ⟨o,s,h1,h2,h3⟩:=I.sl i ρ[i] (by simp)
    rw [hi] at h1
    cases h1
    cases q:ρ[i] with
    | none=>rw [q] at h3; cases h3
    | some tb =>
      obtain ⟨t,b⟩:=tb
      rw [q] at h3
      cases b with
      | false=>cases h3.1
      | true=>exact absurd (by rw [← q]; simp) (hv i t)
 refine ⟨I.lσ,I.lO,I.sl,I.nd,fun a ha=>by (rw [r0] at ha; cases ha),fun p hp=>(nomatch hp),I.ox,fun b o y _=>y,I.nz⟩
theorem i9 {K:PySem.W.Frag} {Z:Zc} {H0:Hp} {tm:List (T×V)} {O:List (Option Addr)} {ρ:En} {σ:L2.St} {H:Hp} (hP:Z.P=[]) (s:aJ Z.H0 H0) (I:az K ⟨H0,[],Z.Ox⟩ tm O ρ σ H):az K Z tm O ρ σ H:=by
 refine ⟨I.lσ,I.lO,I.sl,I.nd,fun a ha=>?_,fun p hp=>by (rw [hP] at hp; cases hp),I.ox,fun b o y _=>I.keep b o (s _ _ y) (by simp),I.nz⟩
 obtain ⟨h1,h2,h3⟩:=I.own a ha
 refine ⟨.inr ?_,h2,h3⟩
 rcases h1 with z | z
 · exact absurd z (by simp)
 · exact s.free z
theorem Dm {K:PySem.W.Frag} {Z:Zc} {H0:Hp} {tm:List (T×V)} {d:HV} {D:Ends} (hP:Z.P=[]) (s:aJ Z.H0 H0) (F:VT.Fin K Z tm d D):VT.Fin K ⟨H0,[],Z.Ox⟩ tm d D:=by
 refine ⟨fun O ρ σ H I h=>F.nx O ρ σ H (i9 hP s I) h,fun O ρ σ H r v z h=>F.rt O ρ σ H r v ?_ h,fun O ρ σ H I h=>F.bk O ρ σ H (i9 hP s I) h,fun O ρ σ H I h=>F.ct O ρ σ H (i9 hP s I) h⟩
 cases r with
 | vw t=>exact ⟨i9 hP s z.1,z.2⟩
 | fr t =>
   obtain ⟨a,rfl,I,hR,h0,hx⟩:=z
   exact ⟨a,rfl,i9 (Z:=Z.ex a) hP s I,hR,s.free h0,hx⟩
theorem Dn {K:PySem.W.Frag} {Z:Zc} {tm:List (T×V)} {O:List (Option Addr)} {ρ:En} {σ:L2.St} {H:Hp} {i:Nat} {s:Option V} (I:az K Z tm O ρ σ H) (hi:ρ[i]?=some none):az K Z tm O ρ (σ.set i s) H:=by
 refine ⟨by rw [Hu]; exact I.lσ,I.lO,fun j e h=>?_,I.nd,I.own,I.par,I.ox,I.keep,I.nz⟩
 obtain ⟨o,s',h1,h2,h3⟩:=I.sl j e h
 by_cases z:j=i
 · subst z
   rw [hi] at h
   cases h
   exact ⟨o,s,h1,by rw [x5 ((gh.mp h2).1)],h3⟩
 · exact ⟨o,s',h1,by rw [t7 (Ne.symm z)]; exact h2,h3⟩
section
variable {X:Cx} {Z:Zc} {S f:Addr} {ts:List Addr} {fd:FuncData} {ps:List Str} {k ix iz jn ia:Nat} {x z n cl fx y:Str} {p0 p1 p2 p3 p4 p5 p6 p7 p8 p9 pos:Pos} {rest:List Stmt} {G:WT→List T→(Rt→Prop)→Prop} {g1:FS} {g2:Addr→Addr→Int→FS} {g3:Addr→Addr→FS}
def noOwn (ρ:En):Prop:=∀ (i:Nat) (t:T),ρ[i]?≠some (some (t,true))
def gX (g2:Addr→Addr→Int→FS) (g3:Addr→Addr→FS) (e C:Addr):Option Int→FS
 | some n=>g2 e C n
 | none=>g3 e C
def Ur (K:PySem.W.Frag) (S:Addr) (ia ix iz jn:Nat) (G:WT→List T→(Rt→Prop)→Prop) (g1:FS) (g2:Addr→Addr→Int→FS) (g3:Addr→Addr→FS):FS:=fun d ρ=>noOwn ρ∧∃ t W,ρ[ia]?=some (some (t,false))∧G W [t] (fun r=>g1 d (ρ.set ix (some (r.t,false)))) ∧
 ∀ C p,W C p→(∃ tl,XC K C tl∧(C=S∨S∈tl))∧XF K C∧∀ e,gX g2 g3 e C p d (((ρ.set jn (some (.ob e,false))).set iz (some (.ob e,false))).set jn none)
theorem Dp (hP:Z.P=[]) (st:X.stack=X.env :: X.outer∧X.env.frame=some X.env.locals) (F:cD X.prog X.w X.K X.mg X.base (Ah X.prog X.w) k f fd ps (EB X.K 1 G)) (hr:bp k X.A) (hg:Gl X fx) (hm:X.mg fx=some (.ref f)) (hk:PySem.W.keepIn X.K (.ref f)=true) (hb:Binds X.K fd ps [])
  (Uk:Gl X cl) (Ul:X.mg cl=some (.ref S)) (xs:XC X.K S ts) (jM:∀ y,X.fn y=true) (hex:X.ex=[])
  (hn:ky X Z rest g1) (hx:∀ e C dd n H0,Ex X.K H0 e C dd (some n)→ky X ⟨H0,[],Z.Ox⟩ rest (g2 e C n)) (Ye:∀ e C dd H0,Ex X.K H0 e C dd none→ky X ⟨H0,[],Z.Ox⟩ rest (g3 e C))
  (hN:X.N.Nodup) (Yf:X.N[ia]?=some y:=by rfl) (MK:X.N[ix]?=some x:=by rfl) (Uj:X.N[iz]?=some z:=by rfl) (LI:X.N[jn]?=some n:=by rfl) (vy:rR X.env.scope y:=by first | exact Or.inl rfl | exact Or.inr (Or.inl rfl)) (lx:Loc X.env.scope x:=by exact Or.inl rfl) (lz:Loc X.env.scope z:=by exact Or.inl rfl) (ln:X.env.scope.names.lookup n=some .local:=by rfl)
  (d1:gg fx:=by decide) (d2:gg cl:=by decide) (d3:gg n:=by decide) (d4:tZ n:=by decide) (d5:gg y:=by decide) (d6:tZ y:=by decide)
  (he:starEach [.Name y p9] X.env=(false,eval (.Name y p9) X.env) :: starEach [] X.env:=by rfl) (fM:(backTo p2 (starEach [] X.env)).any (·.1)=false:=by rfl)
  (LJ:swapsWith (.Call (.Name fx p1) [.Name y p9] [] p2) (some (.Name x p0)) p3.line X.env=pure false:=by rfl) (tW:swapsWith (.Name n p5) (some (.Name z p6)) p7.line X.env=pure false:=by rfl) :
  ky X Z (.Try [.Assign [.Name x p0] (.Call (.Name fx p1) [.Name y p9] [] p2) p3] [.ExceptHandler (some (.Name cl p4)) (some n) [.Assign [.Name z p6] (.Name n p5) p7] p8] [] [] pos :: rest) (Ur X.K S ia ix iz jn G g1 g2 g3):=by
 refine .mk fun tm pins s σ H D J ⟨ρ,O,d,I,⟨no,t,W,ht,hG,hW⟩,Fn⟩=>?_
 have pt:=GS (X:=X) (ix:=ix) (iz:=iz) (jn:=jn) (p0:=p0) (p1:=p1) (p2:=p2) (p3:=p3) (p4:=p4) (p5:=p5) (p6:=p6) (p7:=p7) (p8:=p8) (pos:=pos) (a:=.Name y p9) (ta:=HG (Jf ia) NC) st F hr hg hm hk hb (fun E1=>bu (X:=X.iE E1) (cQ (X:=X.iE E1) Yf vy d5 d6) cR he) hN MK Uj LI lx lz ln Uk Ul xs jM hex d1 d2 d3 d4 he fM LJ tW
 have R1:∀ pins s σ' H',Inv X pins σ' H' s→((lS X Z tm g1 D σ' H')∨∃ e C dd p H0,Ex X.K H0 e C dd p∧lS X ⟨H0,[],Z.Ox⟩ tm (gX g2 g3 e C p) D σ' H')→wpAny (model X.prog X.w) X.A (execs rest X.env) (SP X pins D) X.xe s:=fun pins s σ' H' J' h=>by
  rcases h with h | ⟨e,C,dd,p,H0,xh,h⟩
  · exact hn tm pins s σ' H' D J' h
  · cases p with
    | some n=>exact hx e C dd n H0 xh tm pins s σ' H' D J' h
    | none=>exact Ye e C dd H0 xh tm pins s σ' H' D J' h
 refine wpAny_execs_cons (bT (pt pins s σ H { D with nx:=fun σ' H'=>(lS X Z tm g1 D σ' H')∨∃ e C dd p H0,Ex X.K H0 e C dd p∧lS X ⟨H0,[],Z.Ox⟩ tm (gX g2 g3 e C p) D σ' H' } J ?_) fun fl s1 q=>?_)
 · obtain ⟨o,s',h3,h4,rfl,v,rfl,h5⟩:=I.sl ia _ ht
   refine ⟨v,h4,W,⟨[t],[],av Z O,fun _ r=>g1 d (ρ.set ix (some (r.t,false))),IX,fun _ z=>absurd z fD,I.Kb,dG rfl (aG.cons h5 aG.nil),hG,fun us r hr v' H' fr zz=>?_⟩,fun C p dd H' sm pl hw=>?_⟩
   · have sm:aJ H H':=fun b o e=>fr b o e fD
     refine .inl ⟨_,_,d,(I.same sm).put (fun p hp=>by rw [hP] at hp; cases hp) ?_,hr,Fn⟩
     cases r with
     | vw t'=>exact zz.1
     | fr t' =>
       obtain ⟨b,rfl,T9,_,hR,_⟩:=zz
       obtain ⟨n1,n2,n3⟩:=I.fresh T9
       refine (hR.bq fun c hc=>jc _ hc).at fun z=>?_
       rcases jA.mp z with y | y
       · exact absurd y fD
       · exact n1 y
   · obtain ⟨⟨tl,xc,hS⟩,xf,Yg⟩:=hW C p hw
     refine ⟨C,tl,rfl,xc,hS,fun e n1 n2=>.inr ⟨e,C,dd,p,upd H' e (.ext (LG C e dd)),⟨aU,?_,⟨tl,xc⟩,xf⟩,?_⟩⟩
     · cases p with
       | none=>exact pl
       | some i =>
         obtain ⟨dx,e1,e2⟩:=pl
         exact ⟨dx,e1,by rw [aH (aV e2 n2)]; exact e2⟩
     · have s2:aJ H (upd H' e (.ext (LG C e dd))):=fun b o y=>by rw [aH (fun z=>by rw [z,n1] at y; cases y)]; exact sm b o y
       have I2:=G0 hP (I.same s2) no
       have Ci:∀ i,∀ p∈(⟨upd H' e (.ext (LG C e dd)),[],Z.Ox⟩:Zc).P,p.1≠i:=fun i p hp=>nomatch hp
       have I3:=((I2.put (i:=jn) (t:=.ob e) (v:=.ref e) (Ci _) (by simp only [At])).put (i:=iz) (t:=.ob e) (v:=.ref e) (Ci _) (by simp only [At]))
       have I4:=Dn (s:=(none:Option V)) (I3.forget (Ci jn)) (by rw [x5 (by rw [Hu,Hu,← I.lσ,J.len]; exact (gh.mp LI).1)])
       exact ⟨_,_,d,I4,Yg e,Dm hP ((rG hP I).trans s2) Fn⟩
 · cases fl with
   | next=>obtain ⟨σ',H',J',q⟩:=q; exact R1 pins s1 σ' H' J' q
   | ret v=>exact q
   | _=>exact q
end
end EX
namespace VT
open PySem PySem.Spec PyProof.Rows L2
def LL:FS:=fun _ _=>False
theorem rH {X:Cx} {Z:Zc} {ss:List Stmt}:ky X Z ss LL:=.mk fun tm=>fun pins s σ H D I h=>by
 obtain ⟨_,_,_,_,q,_⟩:=h
 exact q.elim
end VT
namespace IA
open PySem L2 VT Gen ym EX fH
def top (i:Nat):Stmt:=PySem.Challenge.pw_slicewise_k07_blocks_refused.main.body.getD i (.Pass ⟨0,0,0,0⟩)
abbrev gq:Stmt:=top 40
abbrev kY:Stmt:=top 41
abbrev gr:Stmt:=top 42
abbrev vk:Stmt:=top 43
abbrev s_call:Stmt:=top 44
abbrev i_:Stmt:=top 45
abbrev vm:Stmt:=top 46
abbrev pD:Stmt:=top 47
abbrev gu:Stmt:=top 48
abbrev h_:Stmt:=top 49
abbrev jm:Stmt:=top 50
abbrev kZ:Stmt:=top 51
abbrev tD:Stmt:=top 52
abbrev k6:Stmt:=top 53
abbrev yP:Stmt:=top 54
abbrev jI:Stmt:=top 55
abbrev w9:List Str:=["great","row","block","call","text","place","unlike","fault","done"]
structure Us (K:PySem.W.Frag) (mg:Str→Option Value) (S c0 c1 c2 c3 c4 c5 c6 c7 c8:Addr):Prop where
 mS:mg "SliceError" = some (.ref S)
 m0:mg "TooGreat" = some (.ref c0)
 m1:mg "NoRow" = some (.ref c1)
 m2:mg "NoBlock" = some (.ref c2)
 m3:mg "NoCall" = some (.ref c3)
 m4:mg "NoText" = some (.ref c4)
 m5:mg "NoPlace" = some (.ref c5)
 m6:mg "Unlike" = some (.ref c6)
 m7:mg "NoFault" = some (.ref c7)
 m8:mg "Done" = some (.ref c8)
 xs:XC K S []
 nd:[c0,c1,c2,c3,c4,c5,c6,c7,c8].Nodup
 hk:∀ C∈[c0,c1,c2,c3,c4,c5,c6,c7,c8],∀ D∈[c0,c1,c2,c3,c4,c5,c6,c7,c8],PySem.W.kitOne K (.ref C) (.ref D)=some (decide (C=D))
 hv:∀ C∈[c0,c1,c2,c3,c4,c5,c6,c7,c8],PySem.W.kitOne K (.ref C) (.type "ValueError")=some true
 xk:∀ C∈[c0,c1,c2,c3,c4,c5,c6,c7,c8],XC K C [S]∧XF K C
 isinstance:mg "isinstance" = none
 int:mg "int" = none
 bool:mg "bool" = none
 ValueError:mg "ValueError" = none
def Dq (cl:List Addr) (C:Addr) (p:Option Int) (q:T→Prop):Prop:=∃ i:Nat,cl[i]?=some C∧q (.str (w9.getD i ""))
theorem G1 {cl:List Addr} (nd:cl.Nodup) {C:Addr} (h:C∈cl):(cl.map fun D=>decide (C=D)).countP (· == true)=1:=by
 rw [List.countP_map]
 have:((fun x=>x == true) ∘ fun D=>decide (C=D))=fun D=>D == C:=by
  funext D
  simp only [Function.comp]
  by_cases z:C=D
  · subst z; simp
  · have z2:D≠C:=fun y=>z y.symm
    simp [z,z2]
 rw [this]
 exact Nat.le_antisymm (List.nodup_iff_count.mp nd C) (List.count_pos_iff.mpr h)
theorem ib {a:Addr}:∀ u,RelV (.ref a) u→u=Value.ref a:=fun _ z=>z
theorem Pj {n:String}:∀ u,RelV (.ty n) u→u=Value.type n:=fun _ z=>z
section
variable {P:Program} {w:World} {K:PySem.W.Frag} {mg:Str→Option Value} {base:Heap} {S c0 c1 c2 c3 c4 c5 c6 c7 c8:Addr}
abbrev nK:List Str:=["_law_error","_law_some"]
theorem vn:aI nK ["_law_error"] (aj h_):=L2.gI
theorem Dr {f:Addr} {fd:FuncData} (D:Df K mg "_law_which" h_ ["_law_error"] f fd) (M:Us K mg S c0 c1 c2 c3 c4 c5 c6 c7 c8):bW P w K mg base "_law_which" ["_law_error"] 1 (Rk K (Dq [c0,c1,c2,c3,c4,c5,c6,c7,c8])):=by
 refine D.ji (Yd D.F vn rfl fun bD A outer s H E hr e C dd p q xz hG=>?_)
 have nd:=vn.nd
 have hu:=bp.fz hr
 have np:∀ {i:Nat},aY ⟨H,[],[]⟩ i:=ka
 obtain ⟨i,hi,hq⟩:=hG
 have hC:=mY hi
 have vo:=M.hk C hC c0 (by simp)
 have Ds:=M.hk C hC c1 (by simp)
 have xj:=M.hk C hC c2 (by simp)
 have Am:=M.hk C hC c3 (by simp)
 have An:=M.hk C hC c4 (by simp)
 have xl:=M.hk C hC c5 (by simp)
 have Ao:=M.hk C hC c6 (by simp)
 have xm:=M.hk C hC c7 (by simp)
 have G2:=M.hk C hC c8 (by simp)
 have qI:=M.hv C hC
 have pg:∀ {x:Str} {a:Addr} {pos:Pos},mg x=some (.ref a)→(x == ("__debug__" : Str))=false→Gl (dB iK P w K mg base nK "_law_which" (aj h_) f bD A outer s H E).ni x→PE (dB iK P w K mg base nK "_law_which" (aj h_) f bD A outer s H E).ni (.Name x pos) (tC (.ref a)):=fun hm hd hg=>rS hg hm rfl hd
 have vq:∀ {pos},_:=fun {pos}=>pg (pos:=pos) M.m0 (by decide) (by rfl)
 have Dt:∀ {pos},_:=fun {pos}=>pg (pos:=pos) M.m1 (by decide) (by rfl)
 have xn:∀ {pos},_:=fun {pos}=>pg (pos:=pos) M.m2 (by decide) (by rfl)
 have Ap:∀ {pos},_:=fun {pos}=>pg (pos:=pos) M.m3 (by decide) (by rfl)
 have Aq:∀ {pos},_:=fun {pos}=>pg (pos:=pos) M.m4 (by decide) (by rfl)
 have xo:∀ {pos},_:=fun {pos}=>pg (pos:=pos) M.m5 (by decide) (by rfl)
 have Ar:∀ {pos},_:=fun {pos}=>pg (pos:=pos) M.m6 (by decide) (by rfl)
 have xq:∀ {pos},_:=fun {pos}=>pg (pos:=pos) M.m7 (by decide) (by rfl)
 have G3:∀ {pos},_:=fun {pos}=>pg (pos:=pos) M.m8 (by decide) (by rfl)
 have qJ:∀ {pos},PE (dB iK P w K mg base nK "_law_which" (aj h_) f bD A outer s H E).ni (.Name "ValueError" pos) (tC (.ty "ValueError")):=fun {pos} pins s σ H Q I h=>jL I (by rfl) M.ValueError (by decide +kernel) ⟨.ty "ValueError",H,I,rfl,h⟩
 refine ⟨_,(af (aP (i:=1) nd rfl (Or.inl rfl) (VP.vx (bL (ae (VP.ve (gc 0 xz rfl ib vo (by rfl) M.isinstance vq)) (ae (VP.ve (gc 0 xz rfl ib Ds (by rfl) M.isinstance Dt)) (ae (VP.ve (gc 0 xz rfl ib xj (by rfl) M.isinstance xn)) ai))))) np)
   (af (aP (i:=1) nd rfl (Or.inl rfl) (VP.vx (bt (aa 1) (VP.vr (bL (ae (VP.ve (gc 0 xz rfl ib Am (by rfl) M.isinstance Ap)) (ae (VP.ve (gc 0 xz rfl ib An (by rfl) M.isinstance Aq)) (ae (VP.ve (gc 0 xz rfl ib xl (by rfl) M.isinstance xo)) ai))))))) np)
   (af (aP (i:=1) nd rfl (Or.inl rfl) (VP.vx (bt (aa 1) (VP.vr (bL (ae (VP.ve (gc 0 xz rfl ib Ao (by rfl) M.isinstance Ar)) (ae (VP.ve (gc 0 xz rfl ib xm (by rfl) M.isinstance xq)) (ae (VP.ve (gc 0 xz rfl ib G2 (by rfl) M.isinstance G3)) ai))))))) np)
   (af (aL (VW.vc (iM (kx hu (VP.vr (vi (aa 1) (ak (VP.vr jC) aw))) (VP.vr ag)) (fO (c_ (cS (gc 0 xz rfl Pj qI (by rfl) M.isinstance qJ))))))
     (ah (aD (VP.vx ao)))
     ay)
   (ah (aD (VP.vx (aQ (VP.vr (bL (ae (VP.ve ao) (ae (VP.ve ao) (ae (VP.ve ao) (ae (VP.ve ao) (ae (VP.ve ao) (ae (VP.ve ao) (ae (VP.ve ao) (ae (VP.ve ao) (ae (VP.ve ao) ai))))))))))) (VP.vr (vj (aa 1) (ak (VP.vr jC) aw))))))))))),?_⟩
 have Yh:([c0,c1,c2,c3,c4,c5,c6,c7,c8].map fun D=>decide (C=D)).countP (· == true)=1:=G1 M.nd hC
 have fN:i < 9:=(gh.mp hi).1
 refine ⟨rfl,rfl,rfl,small (by simp),rfl,rfl,rfl,small (by simp),small (by simp),rfl,rfl,rfl,small (by simp),small (by simp),?_⟩
 refine ⟨[c0,c1,c2,c3,c4,c5,c6,c7,c8].map fun D=>decide (C=D),true,rfl,rfl,?_⟩
 rw [Yh]
 refine ⟨rfl,small (by simp),[c0,c1,c2,c3,c4,c5,c6,c7,c8].map fun D=>decide (C=D),true,i,rfl,rfl,?_,?_,by simp,?_⟩
 · rw [k9,hi]; simp
 · intro j hj
   rw [k9]
   cases Yi:[c0,c1,c2,c3,c4,c5,c6,c7,c8][j]? with
   | none=>simp
   | some D =>
     have:C≠D:=fun z=>by
      subst z
      obtain ⟨a1,a2⟩:=gh.mp hi
      obtain ⟨b1,b2⟩:=gh.mp Yi
      have:=(List.getElem_inj M.nd).mp (a2.trans b2.symm)
      omega
     simp [this]
 · refine ⟨_,au (j:=i) (v:=T.str (w9.getD i "")) ?_,_,rfl,hq⟩
   match i,fN with
   | 0,_=>rfl
   | 1,_=>rfl
   | 2,_=>rfl
   | 3,_=>rfl
   | 4,_=>rfl
   | 5,_=>rfl
   | 6,_=>rfl
   | 7,_=>rfl
   | 8,_=>rfl
def As (rs:List Rw):T:=match brk [] rs 0 with
 | some i=>.tup [.str "block",.int (i:Int)]
 | none=>match i8 rs with
   | some i=>.tup [.str "call",.int (i:Int)]
   | none=>.tup [.str "made",.lst (rs.map ax)]
def Pk (ts:List T) (q:Rt→Prop):Prop:=∃ rs:List Rw,ts=[.lst (rs.map ax)]∧rs.length≤60∧(∀ r∈rs,ir (ax r))∧q (.vw (As rs))
abbrev Au:List Str:=["_law_rows","_law_error","_law_made","e","_law_word"]
theorem pF:aI Au ["_law_rows"] (aj jm):=L2.gI
theorem xr {f:Addr} {fd:FuncData} (D:Df K mg "_law_outcome" jm ["_law_rows"] f fd) (M:Us K mg S c0 c1 c2 c3 c4 c5 c6 c7 c8) (tE:Ai P w K mg base "program_of" ["rows"] 7 (EB K 1 (EC.nI c2 c3))) (G4:bW P w K mg base "_law_which" ["_law_error"] 1 (Rk K (Dq [c0,c1,c2,c3,c4,c5,c6,c7,c8]))) :
  bW P w K mg base "_law_outcome" ["_law_rows"] 8 (bS K 1 Pk):=by
 obtain ⟨G5,ED,tF,tG,tI,tJ⟩:=tE
 obtain ⟨Rl,Pl,G6,G7,G8,G9⟩:=G4
 refine D.ji (jU D.F pF rfl fun bD A outer s H E Ox hr ts q hG=>?_)
 have nd:=pF.nd
 have mS:=M.mS
 have xs:=M.xs
 refine ⟨_,(af (aP (i:=1) nd rfl (Or.inl rfl) (VP.vx gK) ka)
   (af (aP (i:=2) nd rfl (Or.inl rfl) (VP.vx gK) ka)
   (Dp (ia:=0) (ix:=2) (iz:=1) (jn:=3) rfl ⟨rfl,rfl⟩ tJ (hr.mono (by decide)) (by rfl) tF tG tI (by rfl) mS xs (fun _=>rfl) rfl
   (af (aL (uD (aa 1) (VP.vr gK))
     (ah (aD (VP.vx (aX (ae (VP.ve ao) (ae (aq 2) ai))))))
     ay) rH)
   (fun e C dd n H0 xz =>
     (af (aL (uD (aa 1) (VP.vr gK))
       (ah (aD (VP.vx (aX (ae (VP.ve ao) (ae (aq 2) ai))))))
       ay)
     (af (aP (i:=4) nd rfl (Or.inl rfl) (VP.vx (Dl 1 xz rfl G9 (hr.mono (by decide)) (by rfl) G6 G7 G8)) ka)
     (af (aL (uC (aa 4) (VP.vr (aX (ae (VP.ve ao) (ae (VP.ve ao) (ae (VP.ve ao) ai))))))
       (af (aL (VW.vc (iM (c_ (cS (eB uB (by rfl) M.isinstance (by rfl) M.int Ib (VP.vr (Dk 1 xz rfl))))) (fO (cS (eB rg (by rfl) M.isinstance (by rfl) M.bool Cb (VP.vr (Dk 1 xz rfl)))))))
         (ah (aD (VP.vx (aX (ae (VP.ve ao) (ae (VP.ve ag) ai))))))
         ay)
       (ah (aD (VP.vx (aX (ae (aq 4) (ae (VP.ve (Dk 1 xz rfl)) ai)))))))
       ay)
     (ah (aD (VP.vx (aX (ae (aq 4) (ae (VP.ve ag) ai))))))))))
   (fun _ _ _ _ _=>rH) nd))),fun _=>?_⟩
 obtain ⟨rs,rfl,hn,hA,hq⟩:=hG
 refine ⟨?_,_,fun C p=>(∃ i:Nat,brk [] rs 0=some i∧C=c2∧p=some (i:Int))∨(∃ i:Nat,brk [] rs 0=none∧i8 rs=some i∧C=c3∧p=some (i:Int)),rfl,⟨rs,rfl,hn,hA,?_⟩,fun C p hW=>?_⟩
 · intro i t
   match i with
   | 0=>intro z; cases z
   | 1=>intro z; cases z
   | 2=>intro z; cases z
   | 3=>intro z; cases z
   | 4=>intro z; cases z
   | i+5=>intro z; cases z
 · cases hb:brk [] rs 0 with
   | some i=>exact .inl ⟨i,rfl,rfl,rfl⟩
   | none =>
     cases hc:i8 rs with
     | some i=>exact .inr ⟨i,rfl,rfl,rfl,rfl⟩
     | none =>
       unfold As at hq
       rw [hb,hc] at hq
       exact ⟨small (by simp),hq⟩
 · obtain ⟨j,wd,i,hj,hw,TF,hp,ho⟩:∃ (j:Nat) (wd:Str) (i:Nat),[c0,c1,c2,c3,c4,c5,c6,c7,c8][j]?=some C∧w9.getD j "" = wd∧p_ (.str wd) [.str "row",.str "block",.str "call"]=true∧p=some (i:Int)∧As rs = .tup [.str wd,.int (i:Int)]:=by
    rcases hW with ⟨i,h1,rfl,rfl⟩ | ⟨i,h1,h2,rfl,rfl⟩
    · exact ⟨2,"block",i,rfl,rfl,by decide +kernel,rfl,by unfold As; rw [h1]⟩
    · exact ⟨3,"call",i,rfl,rfl,by decide +kernel,rfl,by unfold As; rw [h1,h2]⟩
   have hC:=mY hj
   obtain ⟨x1,x2⟩:=M.xk C hC
   subst hp
   refine ⟨⟨[S],x1,.inr (by simp)⟩,x2,fun e=>?_⟩
   rw [ho] at hq
   refine ⟨rfl,⟨j,hj,rfl,?_⟩⟩
   rw [hw]
   refine ⟨small (by simp),rfl,rfl,?_⟩
   refine rE (c:=p_ (.str wd) [.str "row",.str "block",.str "call"]) TF ?_
   first
    | exact ⟨rfl,rfl,rfl,rfl,rfl,small (by simp),hq⟩
    | exact ⟨rfl,rfl,rfl,rfl,small (by simp),hq⟩
    | exact ⟨rfl,rfl,rfl,rfl,rfl,rfl,small (by simp),hq⟩
    | exact ⟨rfl,rfl,rfl,rfl,rfl,hq⟩
    | exact ⟨rfl,rfl,rfl,rfl,rfl,rfl,hq⟩
end
end IA
namespace dR
open PySem L2 VT Gen
open ym (bw)
def top (i:Nat):Stmt:=PySem.Challenge.pw_slicewise_k07_blocks_refused.main.body.getD i (.Pass ⟨0,0,0,0⟩)
abbrev gq:Stmt:=top 40
abbrev kY:Stmt:=top 41
abbrev gr:Stmt:=top 42
abbrev vk:Stmt:=top 43
abbrev s_call:Stmt:=top 44
abbrev i_:Stmt:=top 45
abbrev vm:Stmt:=top 46
abbrev pD:Stmt:=top 47
abbrev gu:Stmt:=top 48
structure LM (mg:Str→Option Value):Prop where
 len:mg "len" = none
 range:mg "range" = none
 tuple:mg "tuple" = none
 sum:mg "sum" = none
def IB (ts:List T) (q:Rt→Prop):Prop:=∃ (ns:List Int) (j:Nat),ts=[.lst (ns.map .int),.int (j:Int)]∧q (.vw (.int (ns.getD j 0)))
def Du (ts:List T) (q:Rt→Prop):Prop:=∃ (c:Int) (m:Nat),ts=[.int c,.int (m:Int)]∧2≤m∧m≤20∧q (.fr (.lst ((cH c m).map .str)))
section
variable {P:Program} {w:World} {K:PySem.W.Frag} {mg:Str→Option Value} {base:Heap}
abbrev Av:List Str:=["_law_script","_law_k"]
theorem pG:aI Av ["_law_script","_law_k"] (aj gq):=L2.gI
theorem xt {f:Addr} {fd:FuncData} (D:Df K mg "_law_cell_at" gq ["_law_script","_law_k"] f fd) (M:LM mg):bW P w K mg base "_law_cell_at" ["_law_script","_law_k"] 1 (bS K 2 IB):=by
 refine D.ji (jU D.F pG rfl fun bD A outer s H E Ox hr ts q hG=>?_)
 have nd:=pG.nd
 refine ⟨_,(af (aL (iP (aa 1) (VP.vr (aE aA aB (by rfl) M.len gC (ak (aa 0) aw))))
    (ah (aD (VP.vx (aQ (aa 0) (aa 1)))))
    ay)
   (ah (aD (VP.vx ag)))),fun _=>?_⟩
 obtain ⟨ns,j,rfl,hq⟩:=hG
 refine BK (fun h=>?_) (fun h=>?_)
 · have h':(j:Int) < ((ns.map T.int).length:Int):=of_decide_eq_true h
   rw [b_] at h'
   have hj:j < ns.length:=by omega
   refine ⟨.int (ns.getD j 0),au ?_,hq⟩
   rw [k9,j_ hj,List.getD,j_ hj]
   rfl
 · have h':¬ ((j:Int) < ((ns.map T.int).length:Int)):=fun z=>h (decide_eq_true z)
   rw [b_] at h'
   have e:ns.getD j 0=0:=by
    rw [List.getD,List.getElem?_eq_none (by omega)]
    rfl
   rw [e] at hq
   exact hq
abbrev G_:List Str:=["_law_cell","_law_many","_law_letters","_law_size","_law_at","_law_words_here","_law_k","_law_word","_law_j","_law_number"]
theorem vt:aI G_ ["_law_cell","_law_many"] (aj kY):=L2.gI
theorem Dv {f:Addr} {fd:FuncData} (D:Df K mg "_law_words" kY ["_law_cell","_law_many"] f fd) (M:LM mg):bW P w K mg base "_law_words" ["_law_cell","_law_many"] 1 (bS K 2 Du):=by
 refine D.ji (jU D.F vt rfl fun bD A outer s H E Ox hr ts q hG=>?_)
 have nd:=vt.nd
 have hu:=bp.fz hr
 have np:∀ {i:Nat},aY ⟨H,[],Ox⟩ i:=ka
 refine ⟨_,(af (aP (i:=2) nd rfl (Or.inl rfl) (VP.vx ao) np)
   (af (aP (i:=0) nd rfl (Or.inl rfl) (VP.vx (aT (aa 0) (VP.vr (jR (VP.vr ag) (VP.vr ag))))) np)
   (af (aP (i:=3) nd rfl (Or.inl rfl) (VP.vx (bt (VP.vr ag) (VP.vr (aT (aa 0) (VP.vr ag))))) np)
   (af (aP (i:=4) nd rfl (Or.inl rfl) (VP.vx (aT (VP.vr (bb (aa 0) (VP.vr ag))) (aa 3))) np)
   (af (dC (i:=5) nd rfl (Or.inl rfl) (VP.vx (bL ai)) np)
   (af (cF x8 rfl (cW (by rfl) M.range (aa 1)) (aW (i:=6) nd rfl (Or.inl rfl) np)
     (af (aP (i:=7) nd rfl (Or.inl rfl) (VP.vx ao) np)
     (af (cF x8 rfl (cW (by rfl) M.range (aa 3)) (aW (i:=8) nd rfl (Or.inl rfl) np)
       (af (aP (i:=9) nd rfl (Or.inl rfl) (VP.vx (bt (VP.vr (bb (VP.vr (bb (aa 0) (VP.vr ag))) (VP.vr (bt (aa 8) (VP.vr ag))))) (VP.vr (fP (aa 8) (aa 8))))) np)
       (af (aL (br hu (aa 8) (aa 4))
         (ah (Kr (i:=9) nd rfl (Or.inl rfl) (aa 6) EZ BZ np))
         ay)
       (ah (aP (i:=7) nd rfl (Or.inl rfl) (VP.vx (bt (aa 7) (VP.vr (aQ (aa 2) (VP.vr (aT (aa 9) (VP.vr ag))))))) np)))))
     (ah (a_ (dy 5 t5 t6 bg ba (ae (aq 7) ai)))))))
   (af (aL (br hu (VP.vr (aT (VP.vr (bb (aa 0) (VP.vr ag))) (VP.vr ag))) (VP.vr ag))
     (ah (n9 5 (VP.ve (bt (VP.vr (aQ (aa 5) (VP.vr ag))) (VP.vr (aQ (aa 2) (VP.vr (aT (VP.vr (bb (aa 0) (VP.vr ag))) (VP.vr ag))))))) (VP.vr ag)))
     ay)
   (ah (aD (gN 5 np)))))))))),fun _=>?_⟩
 obtain ⟨c,m,rfl,ZL,Yj,hq⟩:=hG
 have Ut:(10:Int) ^ (12:Int).toNat=1000000000000:=OR
 have hz:(1:Int)+c % (10:Int) ^ (12:Int).toNat % 7=(jx c:Int):=by rw [Ut]; exact (Il c).symm
 have pY:=oN c
 refine ⟨⟨by decide,by decide,by decide⟩,(by show (0:Int) < 10 ^ (12:Int).toNat; decide),(by show (0:Int) < 7; decide),⟨by decide,by decide⟩,(by show (0:Int) < 1+c % 10 ^ (12:Int).toNat % 7; rw [hz]; omega),kd _,by omega,by omega,?_⟩
 refine cT (fun k ρ=>∃ kv wv jv nv,ρ=[some (.int (qz c),false),some (.int (m:Int),false),some (.str bw,false),some (.int (jx c:Int),false),some (.int (zK c:Int),false),some (.lst (((List.range k).map fun k=>bN c k (jx c)).map .str),true),kv,wv,jv,nv]) ⟨none,none,none,none,?_⟩ ?_ ?_
 · have ha:c % (10:Int) ^ (12:Int).toNat / 7 % (1+c % (10:Int) ^ (12:Int).toNat % 7)=(zK c:Int):=by rw [hz,Ut]; exact (Im c).symm
   show [some (T.int (c % (10:Int) ^ (12:Int).toNat),false),_,_,some (T.int (1+c % (10:Int) ^ (12:Int).toNat % 7),false),some (T.int (c % (10:Int) ^ (12:Int).toNat / 7 % (1+c % (10:Int) ^ (12:Int).toNat % 7)),false),_,_,_,_,_]=_
   rw [ha,hz,Ut]
   rfl
 · rintro k ρ hk ⟨kv,wv,jv,nv,rfl⟩
   refine ⟨by omega,by omega,?_⟩
   refine cT (fun j ρ=>∃ jv nv,ρ=[some (.int (qz c),false),some (.int (m:Int),false),some (.str bw,false),some (.int (jx c:Int),false),some (.int (zK c:Int),false),some (.lst (((List.range k).map fun k=>bN c k (jx c)).map .str),true),some (.int (0+(k:Int)),false),some (.str (bN c k j),false),jv,nv]) ⟨_,_,rfl⟩ ?_ ?_
   · rintro j ρ hj ⟨jv,nv,rfl⟩
     have Ol:j < jx c:=by omega
     refine ⟨⟨by decide,by decide⟩,⟨by show (0:Int) < 0+(j:Int)+1; omega,by show 0+(j:Int)+1 < 1073741824; omega⟩,.inl ⟨by show -(2 ^ 64) < 0+(j:Int); omega,by show 0+(j:Int) < 2 ^ 64; omega⟩,?_⟩
     have last:∀ n:Int,n=sN c k j→∃ c',ju bw.cps.toList (n % 26)=some c'∧(bN c k j).length+(Str.mk #[c']).length≤sizeLine∧(bN c k j ++ ⟨#[c']⟩)=bN c k (j+1):=by
      rintro n rfl
      refine ⟨_,rn _,?_,(wH c k j).symm⟩
      rw [eF,sizeLine_eq]
      show j+1≤16777216
      omega
     refine bP (fun h=>?_) (fun h=>?_)
     · have Uu:j=zK c:=by have h:(0:Int)+(j:Int)=(zK c:Int):=h; omega
       obtain ⟨c',h1,h2,h3⟩:=last (qz c / 49 / (0+(j:Int)+1)+(0+(j:Int)) * (0+(j:Int))+(0+(k:Int))) (by unfold sN; rw [if_pos Uu]; simp only [IY])
       exact ⟨by show (0:Int) < 26; decide,fR,c',h1,h2,_,_,by rw [← h3]; rfl⟩
     · have Uu:¬ j=zK c:=fun z=>h (by show (0:Int)+(j:Int)=(zK c:Int); omega)
       obtain ⟨c',h1,h2,h3⟩:=last (qz c / 49 / (0+(j:Int)+1)+(0+(j:Int)) * (0+(j:Int))) (by unfold sN; rw [if_neg Uu]; simp only [IY,Int.add_zero])
       exact ⟨by show (0:Int) < 26; decide,fR,c',h1,h2,_,_,by rw [← h3]; rfl⟩
   · rintro ρ ⟨jv,nv,rfl⟩
     refine ⟨?_,some (.int (0+(k:Int)),false),some (.str (bN c k (jx c)),false),jv,nv,?_⟩
     · rw [b_,b_,EG,sizeLine_eq]; omega
     · rw [List.range_succ,pX,pX]; rfl
 · rintro ρ ⟨kv,wv,jv,nv,rfl⟩
   refine ⟨⟨by decide,by decide⟩,(by show (0:Int) < 3; decide),bP (fun h=>?_) (fun h=>?_)⟩
   · have hc:qz c / 49 % 3=1:=h
     have e0:ju (((List.range m).map fun k=>bN c k (jx c)).map T.str) 0=some (T.str (bN c 0 (jx c))):=by
      refine au (j:=0) ?_
      rw [k9,k9,List.getElem?_range (by omega)]
      rfl
     refine ⟨_,e0,⟨by decide,by decide⟩,(by show (0:Int) < 26; decide),fR,_,rn _,?_,1,?_,?_⟩
     · rw [eF,sizeLine_eq]
       show jx c+1≤16777216
       omega
     · unfold vK
       rw [if_pos (by decide),if_pos (by rw [b_,b_,EG]; omega)]
       rfl
     · have e:(cH c m).map T.str=(((List.range m).map fun k=>bN c k (jx c)).map T.str).set 1 (T.str (bN c 0 (jx c) ++ ⟨#[gk (qz c / 147)]⟩)):=by
        unfold cH
        rw [if_pos hc,List.map_set]
       rw [e] at hq
       exact hq
   · have hc:¬ qz c / 49 % 3=1:=h
     have e:(cH c m).map T.str=(((List.range m).map fun k=>bN c k (jx c)).map T.str):=by
      unfold cH
      rw [if_neg hc]
     rw [e] at hq
     exact hq
end
def gv (ts:List T) (q:Rt→Prop):Prop:=∃ (n:Int) (ys:List Str),ts=[.int n,.lst (ys.map .str)]∧ys.length=6∧0≤n∧n < 2147483648∧∀ o,cK ys o→q (.vw (lL o))
def Pm (ts:List T) (q:Rt→Prop):Prop:=∃ (n:Int) (ys:List Str),ts=[.int n,.lst (ys.map .str)]∧ys.length=6∧(∀ y∈ys,y.length≤100)∧0≤n∧n < 2147483648∧∀ k,zL ys k→q (.vw (CA k))
def IC (ts:List T) (q:Rt→Prop):Prop:=∃ (n:Int) (x:Str) (ys:List Str) (pl:Plan),ts=[.int n,.str x,.lst (ys.map .str),.lst (pl.map bj)]∧ys.length=6∧pl≠[]∧pl.length≤3∧(∀ p∈pl,p.2.length≤4)∧x∈ys∧0≤n∧n < 2147483648 ∧
 ∀ f as,kF ys pl (.call x f as)→q (.vw (ax (.call x f as)))
structure Given (ys:List Str) (pl:Plan):Prop where
 y6:ys.length=6
 sm:∀ y∈ys,y.length≤100
 p3:pl.length≤3
 p4:∀ p∈pl,p.2.length≤4
def yQ (ts:List T) (q:Rt→Prop):Prop:=∃ (n:Int) (ys:List Str) (pl:Plan),ts=[.int n,.lst (ys.map .str),.lst (pl.map bj)]∧Given ys pl∧0≤n∧n < 2147483648∧∀ r,kF ys pl r→q (.vw (ax r))
section
variable {P:Program} {w:World} {K:PySem.W.Frag} {mg:Str→Option Value} {base:Heap}
abbrev Aw:List Str:=["_law_number","_law_words_here"]
theorem pH:aI Aw ["_law_number","_law_words_here"] (aj gr):=L2.gI
theorem jX {f:Addr} {fd:FuncData} (D:Df K mg "_law_operand" gr ["_law_number","_law_words_here"] f fd):bW P w K mg base "_law_operand" ["_law_number","_law_words_here"] 1 (bS K 2 gv):=by
 refine D.ji (jU D.F pH rfl fun bD A outer s H E Ox hr ts q hG=>?_)
 have nd:=pH.nd
 have hu:=bp.fz hr
 refine ⟨_,(af (aL (q9 (VP.vr (aT (aa 0) (VP.vr ag))) (VP.vr ag))
    (ah (aD (VP.vx (aQ (aa 1) (VP.vr (aT (VP.vr (bb (aa 0) (VP.vr ag))) (VP.vr ag)))))))
    ay)
   (af (aL (br hu (VP.vr (aT (aa 0) (VP.vr ag))) (VP.vr ag))
     (ah (aD (VP.vx (n5 (VP.vr (aT (VP.vr (bt (VP.vr (fP (VP.vr (fP (aa 0) (VP.vr ag))) (VP.vr (jR (VP.vr ag) (VP.vr ag))))) (aa 0))) (VP.vr (fP (VP.vr ag) (VP.vr (jR (VP.vr ag) (VP.vr ag))))))) (VP.vr (jR (VP.vr ag) (VP.vr ag)))))))
     ay)
   (ah (aD (VP.vx (n5 (VP.vr (aT (VP.vr (bb (aa 0) (VP.vr ag))) (VP.vr ag))) (VP.vr ag))))))),fun _=>?_⟩
 obtain ⟨n,ys,rfl,xu,Pn,ID,hq⟩:=hG
 refine ⟨(by show (0:Int) < 3; decide),bP (fun _=>?_) (fun _=>?_)⟩
 · obtain ⟨y,hy,e⟩:=kG xu (n:=n / 3) (m:=4) (by decide) (by decide)
   exact ⟨⟨by decide,by decide⟩,(by show (0:Int) < 4; decide),_,e,hq (.nm y) hy⟩
 · refine ⟨(by show (0:Int) < 15; decide),bP (fun _=>?_) (fun _=>?_)⟩
   · refine ⟨.inr ⟨by decide,by decide⟩,⟨by decide,by decide,by decide⟩,.inl ⟨by show -(2 ^ 64:Int) < n * 1000003; omega,by show n * 1000003 < (2 ^ 64:Int); omega⟩,⟨by decide,by decide,by decide⟩,.inl ⟨by decide,by decide⟩,(by show (0:Int) < 2 * 10 ^ (30:Int).toNat; decide),⟨by decide,by decide,by decide⟩,hq (.nu _) ?_⟩
     show -1000000000000000000000000000000≤(n * 1000003 * 10 ^ (20:Int).toNat+n) % (2 * 10 ^ (30:Int).toNat) - 10 ^ (30:Int).toNat∧(n * 1000003 * 10 ^ (20:Int).toNat+n) % (2 * 10 ^ (30:Int).toNat) - 10 ^ (30:Int).toNat < 1000000000000000000000000000000
     rw [OT]
     have h0:=k_ (n * 1000003 * 10 ^ (20:Int).toNat+n) (show (2 * 1000000000000000000000000000000:Int)≠0 by decide)
     have h1:=mB (n * 1000003 * 10 ^ (20:Int).toNat+n) (show (0:Int) < 2 * 1000000000000000000000000000000 by decide)
     exact ⟨by omega,by omega⟩
   · refine ⟨⟨by decide,by decide⟩,(by show (0:Int) < 9; decide),hq (.nu _) ?_⟩
     show -1000000000000000000000000000000≤n / 3 % 9 - 4∧n / 3 % 9 - 4 < 1000000000000000000000000000000
     have h0:=k_ (n / 3) (show (9:Int)≠0 by decide)
     have h1:=mB (n / 3) (show (0:Int) < 9 by decide)
     exact ⟨by omega,by omega⟩
abbrev Po:List Str:=["_law_number","_law_words_here"]
theorem Dw:aI Po ["_law_number","_law_words_here"] (aj vk):=L2.gI
theorem LN {f:Addr} {fd:FuncData} (D:Df K mg "_law_key" vk ["_law_number","_law_words_here"] f fd) (c1:bW P w K mg base "_law_operand" ["_law_number","_law_words_here"] 1 (bS K 2 gv)):bW P w K mg base "_law_key" ["_law_number","_law_words_here"] 2 (bS K 2 Pm):=by
 obtain ⟨jo,ic,bH,bI,bJ,bK⟩:=c1
 refine D.ji (jU D.F Dw rfl fun bD A outer s H E Ox hr ts q hG=>?_)
 have nd:=Dw.nd
 have hu:=bp.fz hr
 refine ⟨_,(af (aL (br hu (VP.vr (aT (aa 0) (VP.vr ag))) (VP.vr ag))
    (ah (aD (VP.vx (bt (VP.vr ao) (VP.vr (aQ (aa 1) (VP.vr (aT (VP.vr (bb (aa 0) (VP.vr ag))) (VP.vr ag)))))))))
    ay)
   (ah (aD (VP.vx (aM bK (hr.mono (by decide)) (by rfl) bH bI bJ (ae (VP.ve (bb (aa 0) (VP.vr ag))) (ae (aq 1) ai))))))),fun _=>?_⟩
 obtain ⟨n,ys,rfl,xu,Yk,Pn,ID,hq⟩:=hG
 refine ⟨(by show (0:Int) < 2; decide),bP (fun _=>?_) (fun _=>?_)⟩
 · obtain ⟨y,hy,e⟩:=kG xu (n:=n / 2) (m:=2) (by decide) (by decide)
   refine ⟨⟨by decide,by decide⟩,(by show (0:Int) < 2; decide),_,e,?_,hq (.fld y) hy⟩
   rw [T4,sizeLine_eq]
   have:=Yk y hy
   omega
 · exact ⟨⟨by decide,by decide⟩,rfl,_,ys,rfl,xu,by show 0≤n / 2; omega,by show n / 2 < 2147483648; omega,fun o ho=>hq (.op o) ho⟩
abbrev LO:List Str:=["_law_number","_law_name","_law_words_here","_law_later","_law_other","_law_parameters","_law_operands","_law_k"]
theorem yR:aI LO ["_law_number","_law_name","_law_words_here","_law_later"] (aj s_call):=L2.gI
theorem G' {f:Addr} {fd:FuncData} (D:Df K mg "_law_call" s_call ["_law_number","_law_name","_law_words_here","_law_later"] f fd) (M:LM mg) (c1:bW P w K mg base "_law_operand" ["_law_number","_law_words_here"] 1 (bS K 2 gv)) :
  bW P w K mg base "_law_call" ["_law_number","_law_name","_law_words_here","_law_later"] 2 (bS K 4 IC):=by
 obtain ⟨jo,ic,bH,bI,bJ,bK⟩:=c1
 refine D.ji (jU D.F yR rfl fun bD A outer s H E Ox hr ts q hG=>?_)
 have nd:=yR.nd
 have np:∀ {i:Nat},aY ⟨H,[],Ox⟩ i:=ka
 refine ⟨_,(af (B4 (VP.ve (aQ (aa 3) (VP.vr (aT (aa 0) (VP.vr (aE aA aB (by rfl) M.len gC (ak (aa 3) aw))))))) (gO (n:=2) rfl (bx (aW (i:=4) nd rfl (Or.inl rfl) np) (bx (aW (i:=5) nd rfl (Or.inl rfl) np) eA))))
   (af (dC (i:=6) nd rfl (Or.inl rfl) (VP.vx (bL ai)) np)
   (af (cF x8 rfl (cW (by rfl) M.range (VP.vr (aE aA aB (by rfl) M.len gC (ak (aa 5) aw)))) (aW (i:=7) nd rfl (Or.inl rfl) np)
     (ah (a_ (dy 6 t5 t6 bg ba (ae (VP.ve (aM bK (hr.mono (by decide)) (by rfl) bH bI bJ (ae (VP.ve (bb (aa 0) (VP.vr (bt (VP.vr (aE aA aB (by rfl) M.len gC (ak (aa 3) aw))) (aa 7))))) (ae (aq 2) ai)))) ai)))))
   (ah (aD (VP.vx (aX (ae (VP.ve ao) (ae (aq 1) (ae (aq 4) (ae (VP.ve (eE jB mj (by rfl) M.tuple nC (ak (aa 6) aw))) ai))))))))))),fun _=>?_⟩
 obtain ⟨n,x,ys,pl,rfl,xu,pZ,Yl,V2,hx,Pn,ID,hq⟩:=hG
 have Ym:0 < pl.length:=by cases pl with | nil=>exact absurd rfl pZ | cons a r=>simp
 have eL:((pl.map bj).length:Int)=pl.length:=by rw [b_]
 have h0:0≤n % ((pl.map bj).length:Int):=k_ n (by omega)
 have h1:n % ((pl.map bj).length:Int) < pl.length:=by rw [eL]; exact mB n (by omega)
 obtain ⟨j,hj⟩:=Ef h0
 have Rj:j < pl.length:=by omega
 obtain ⟨p,hp⟩:∃ p:Str×List Str,p=pl[j]:=⟨_,rfl⟩
 obtain ⟨fn,ps⟩:=p
 have Pp:(fn,ps)∈pl:=by rw [hp]; exact A9 Rj
 have ZM:ps.length≤4:=V2 _ Pp
 refine ⟨(by show (0:Int) < ((pl.map bj).length:Int); omega),bj (fn,ps),?_,rfl,?_⟩
 · rw [hj]
   refine au ?_
   rw [k9,j_ Rj,← hp]
   rfl
 refine ⟨rfl,kd _,by omega,by show ((ps.map T.str).length:Int) < 2 ^ 62; rw [b_]; omega,?_⟩
 refine cT (fun k ρ=>∃ kv os as,ρ=[some (.int n,false),some (.str x,false),some (.lst (ys.map .str),false),some (.lst (pl.map bj),false),some (.str fn,false),some (.tup (ps.map .str),false),some (.lst os,true),kv]∧os=as.map lL∧as.length=k∧∀ a∈as,cK ys a)
  ⟨none,[],[],rfl,rfl,rfl,fun _ z=>nomatch z⟩ ?_ ?_
 · rintro k ρ hk ⟨kv,_,as,rfl,rfl,rfl,jM⟩
   have OK:as.length < ps.length:=by rw [b_,Eg] at hk; exact hk
   clear hk
   refine ⟨⟨by show (0:Int) < ((pl.map bj).length:Int)+(0+(as.length:Int)); omega,by show ((pl.map bj).length:Int)+(0+(as.length:Int)) < 1073741824; omega⟩,rfl,_,ys,rfl,xu,?_,?_,fun o ho=>⟨?_,_,_,as ++ [o],rfl,?_,by simp,fun a ha=>?_⟩⟩
   · exact Int.ediv_nonneg Pn (by omega)
   · exact Int.lt_of_le_of_lt (Int.ediv_le_self _ Pn) ID
   · rw [b_,sizeLine_eq]; omega
   · rw [pX]; rfl
   · rcases jA.mp ha with z | z
     · exact jM a z
     · rw [x6.mp z]; exact ho
 · rintro ρ ⟨kv,_,as,rfl,rfl,hlen,jM⟩
   refine ⟨by show 4≤sizeLine; rw [sizeLine_eq]; decide,hq fn as ⟨hx,⟨ps,Pp,?_⟩,jM⟩⟩
   rw [hlen,b_]; rfl
end
theorem fits {n:Nat} (h:n≤1001):n < sizeLine:=by rw [sizeLine_eq]; omega
theorem jW {n:Nat} (h:n≤8):n≤sizeLine:=small (by omega)
def Uv (q:Rt→Prop) (n:Int) (ys:List Str) (pl:Plan) (y z:Str):FS:=fun d ρ=>(∃ wv,ρ=[some (.int n,false),some (.lst (ys.map .str),false),some (.lst (pl.map bj),false),some (.int (n % 13),false),some (.str y,false),some (.str z,false),some (.int (n / 208),false),wv])∧∀ ρ r,q r→d.rt ρ r
def Pq:GT:=fun ts q=>∃ (rs:List Rw) (cp:List Str) (c:Int) (ys:List Str) (pl:Plan),ts=[.lst (rs.map ax),.lst (cp.map .str),.int c,.lst (ys.map .str),.lst (pl.map bj)]∧Given ys pl∧rs.length≤1000∧cp.length≤1000 ∧
 ∀ new eD,oO ys pl cp new eD→q [.lst ((rs ++ new).map ax),.lst (eD.map .str)] (.vw .bh)
section
variable {P:Program} {w:World} {K:PySem.W.Frag} {mg:Str→Option Value} {base:Heap}
abbrev Dx:List Str:=["_law_number","_law_words_here","_law_later","_law_kind","_law_name","_law_other","_law_rest","_law_word"]
theorem rJ:aI Dx ["_law_number","_law_words_here","_law_later"] (aj i_):=L2.gI
theorem Ax {f:Addr} {fd:FuncData} (D:Df K mg "_law_simple" i_ ["_law_number","_law_words_here","_law_later"] f fd) (c1:bW P w K mg base "_law_operand" ["_law_number","_law_words_here"] 1 (bS K 2 gv))
  (c2:bW P w K mg base "_law_key" ["_law_number","_law_words_here"] 2 (bS K 2 Pm)) (c3:bW P w K mg base "_law_call" ["_law_number","_law_name","_law_words_here","_law_later"] 2 (bS K 4 IC)) :
  bW P w K mg base "_law_simple" ["_law_number","_law_words_here","_law_later"] 3 (bS K 3 yQ):=by
 obtain ⟨jo,ic,bH,bI,bJ,bK⟩:=c1
 obtain ⟨V_,Uw,IE,IF,IG,IH⟩:=c2
 obtain ⟨Ux,Rm,LP,LQ,LR,LS⟩:=c3
 refine D.ji (jU D.F rJ rfl fun bD A outer s H E Ox hr ts q hG=>?_)
 have nd:=rJ.nd
 have hu:=bp.fz hr
 have np:∀ {i:Nat},aY ⟨H,[],Ox⟩ i:=ka
 obtain ⟨n,ys,pl,rfl,G,Pn,ID,hq⟩:=hG
 obtain ⟨y,hy,ey⟩:=kG G.y6 (n:=n / 13) (m:=4) (by decide) (by decide)
 obtain ⟨z,hz,ez⟩:=kG G.y6 (n:=n / 52) (m:=4) (by decide) (by decide)
 refine ⟨_,(af (aP (i:=3) nd rfl (Or.inl rfl) (VP.vx (aT (aa 0) (VP.vr ag))) np)
   (af (aP (i:=4) nd rfl (Or.inl rfl) (VP.vx (aQ (aa 1) (VP.vr (aT (VP.vr (bb (aa 0) (VP.vr ag))) (VP.vr ag))))) np)
   (af (aP (i:=5) nd rfl (Or.inl rfl) (VP.vx (aQ (aa 1) (VP.vr (aT (VP.vr (bb (aa 0) (VP.vr ag))) (VP.vr ag))))) np)
   (af (aP (i:=6) nd rfl (Or.inl rfl) (VP.vx (bb (aa 0) (VP.vr ag))) np)
   (af (aL (iP (aa 3) (VP.vr ag))
     (ah (aD (VP.vx (aX (ae (VP.ve ao) (ae (aq 4) (ae (VP.ve (aM bK (hr.mono (by decide)) (by rfl) bH bI bJ (ae (aq 6) (ae (aq 1) ai)))) ai)))))))
     ay)
   (af (aL (iP (aa 3) (VP.vr ag))
     (af (aP (i:=7) nd rfl (Or.inl rfl) (VP.vx (aQ (VP.vr (bL (ae (VP.ve ao) (ae (VP.ve ao) (ae (VP.ve ao) (ae (VP.ve ao) (ae (VP.ve ao) (ae (VP.ve ao) (ae (VP.ve ao) ai))))))))) (VP.vr (aT (aa 6) (VP.vr ag))))) np)
     (ah (aD (VP.vx (aX (ae (VP.ve ao) (ae (aq 4) (ae (VP.ve (aM bK (hr.mono (by decide)) (by rfl) bH bI bJ (ae (VP.ve (bb (aa 6) (VP.vr ag))) (ae (aq 1) ai)))) (ae (aq 7) (ae (VP.ve (aM bK (hr.mono (by decide)) (by rfl) bH bI bJ (ae (VP.ve (bb (aa 6) (VP.vr ag))) (ae (aq 1) ai)))) ai))))))))))
     ay)
   (af (aL (br hu (aa 3) (VP.vr ag))
     (ah (aD (VP.vx (aX (ae (VP.ve ao) (ae (aq 4) ai))))))
     ay)
   (af (aL (iP (aa 3) (VP.vr ag))
     (ah (aD (VP.vx (aX (ae (VP.ve ao) (ae (aq 4) (ae (aq 5) (ae (VP.ve (aM IH (hr.mono (by decide)) (by rfl) IE IF IG (ae (aq 6) (ae (aq 1) ai)))) ai))))))))
     ay)
   (af (aL (iP (aa 3) (VP.vr ag))
     (ah (aD (VP.vx (aX (ae (VP.ve ao) (ae (aq 5) (ae (VP.ve (aM IH (hr.mono (by decide)) (by rfl) IE IF IG (ae (aq 6) (ae (aq 1) ai)))) (ae (VP.ve (aM bK (hr.mono (by decide)) (by rfl) bH bI bJ (ae (VP.ve (bb (aa 6) (VP.vr ag))) (ae (aq 1) ai)))) ai))))))))
     ay)
   (af (aL (VW.vc (c9 (br hu (aa 3) (VP.vr ag)) (cy (kx hu (aa 2) (VP.vr (bL ai))))))
     (ah (aD (VP.vx (aM LS (hr.mono (by decide)) (by rfl) LP LQ LR (ae (aq 6) (ae (aq 4) (ae (aq 1) (ae (aq 2) ai))))))))
     ay)
   (ky.weak (u:=(Uv q n ys pl y z)) (af (aL (VW.vc (c9 (br hu (aa 3) (VP.vr ag)) (cy (br hu (VP.vr (aT (aa 6) (VP.vr ag))) (VP.vr ag)))))
     (ah (aD (VP.vx (aX (ae (VP.ve ao) (ae (VP.ve (aQ (aa 1) (VP.vr (bt (VP.vr ag) (VP.vr (aT (VP.vr (bb (aa 6) (VP.vr ag))) (VP.vr ag))))))) ai))))))
     ay)
   (af (aL (VW.vc (c9 (br hu (aa 3) (VP.vr ag)) (cy (br hu (VP.vr (aT (aa 6) (VP.vr ag))) (VP.vr ag)))))
     (ah (aD (VP.vx (aX (ae (VP.ve ao) ai)))))
     ay)
   (ah (aD (VP.vx (aX (ae (VP.ve ao) (ae (aq 4) (ae (aq 5) ai))))))))) ?w_cutS))))))))))),fun _=>?_⟩
 case w_cutS =>
  rintro d ρ ⟨⟨wv,rfl⟩,kk⟩
  have fin:=kk
  refine bP (fun _=>?_) (fun _=>?_)
  · refine ⟨(by show (0:Int) < 3; decide),bP (fun _=>?_) (fun _=>?_)⟩
    · obtain ⟨x,hx,ex⟩:=Le G.y6 (n / 208 / 3)
      exact ⟨⟨by decide,by decide⟩,(by show (0:Int) < 2; decide),_,ex,jW (by simp),kk _ _ (hq (.fail x) hx)⟩
    · refine bP (fun _=>?_) (fun _=>⟨jW (by simp),kk _ _ (hq (.put y (.nm z)) ⟨hy,hz⟩)⟩)
      exact ⟨(by show (0:Int) < 2; decide),bP (fun _=>⟨jW (by simp),kk _ _ (hq .skip trivial)⟩) (fun _=>⟨jW (by simp),kk _ _ (hq (.put y (.nm z)) ⟨hy,hz⟩)⟩)⟩
  · refine dH rfl (bP (fun _=>?_) (fun _=>dH rfl ⟨jW (by simp),kk _ _ (hq (.put y (.nm z)) ⟨hy,hz⟩)⟩))
    exact ⟨(by show (0:Int) < 2; decide),bP (fun _=>⟨jW (by simp),kk _ _ (hq .skip trivial)⟩) (fun _=>⟨jW (by simp),kk _ _ (hq (.put y (.nm z)) ⟨hy,hz⟩)⟩)⟩
 have m0:0≤n / 208:=by omega
 have m1:n / 208 < 2147483648:=by omega
 have dv:∀ e:Int,0 < e→0≤n / 208 / e∧n / 208 / e < 2147483648:=fun e he=>⟨Int.ediv_nonneg m0 (by omega),Int.lt_of_le_of_lt (Int.ediv_le_self _ m0) m1⟩
 refine ⟨(by show (0:Int) < 13; decide),⟨by decide,by decide⟩,(by show (0:Int) < 4; decide),_,ey,⟨by decide,by decide⟩,(by show (0:Int) < 4; decide),_,ez,⟨by decide,by decide⟩,?_⟩
 refine bP (fun _=>?_) (fun _=>?_)
 · exact ⟨rfl,_,ys,rfl,G.y6,m0,m1,fun o ho=>⟨jW (by simp),hq (.put y o) ⟨hy,ho⟩⟩⟩
 refine bP (fun _=>?_) (fun _=>?_)
 · obtain ⟨op,Yn,Yo⟩:=il (n / 208)
   exact ⟨jW (by simp),(by show (0:Int) < 7; decide),_,Yo,⟨by decide,by decide⟩,rfl,_,ys,rfl,G.y6,(dv 7 (by decide)).1,(dv 7 (by decide)).2,fun o ho=>⟨⟨by decide,by decide⟩,rfl,_,ys,rfl,G.y6,(dv 420 (by decide)).1,(dv 420 (by decide)).2,fun o2 Bc=>⟨jW (by simp),hq (.Gi y o op o2) ⟨hy,ho,Yn,Bc⟩⟩⟩⟩
 refine bP (fun _=>⟨jW (by simp),hq (.new y) hy⟩) (fun _=>?_)
 refine bP (fun _=>?_) (fun _=>?_)
 · exact ⟨rfl,_,ys,rfl,G.y6,G.sm,m0,m1,fun k hk=>⟨jW (by simp),hq (.get y z k) ⟨hy,hz,hk⟩⟩⟩
 refine bP (fun _=>?_) (fun _=>?_)
 · exact ⟨rfl,_,ys,rfl,G.y6,G.sm,m0,m1,fun k hk=>⟨⟨by decide,by decide⟩,rfl,_,ys,rfl,G.y6,(dv 90 (by decide)).1,(dv 90 (by decide)).2,fun o ho=>⟨jW (by simp),hq (.set z k o) ⟨hz,hk,ho⟩⟩⟩⟩
 refine bP (fun _=>?_) (fun _=>dH rfl ⟨⟨_,rfl⟩,fun _ _ h=>h⟩)
 refine ⟨kd _,uN pl,rfl,zM pl,?_⟩
 cases pl with
 | nil=>exact dH rfl ⟨⟨_,rfl⟩,fun _ _ h=>h⟩
 | cons p pl=>exact KQ rfl ⟨rfl,_,y,ys,p :: pl,rfl,G.y6,by simp,G.p3,G.p4,hy,m0,m1,fun fn as hs=>hq _ hs⟩
end
def Dy (q:List T→Rt→Prop) (rs:List Rw) (cp:List Str) (c n mv:Int) (ys:List Str) (pl:Plan):FS:=fun d ρ=>(∃ nv,ρ=[some (.lst (rs.map ax),true),some (.lst (cp.map .str),true),some (.int c,false),some (.lst (ys.map .str),false),some (.lst (pl.map bj),false),some (.int n,false),some (.int mv,false),nv]) ∧
 ∀ ρ,q (lC [true,true,false,false,false] ρ) (.vw .bh)→d.nx ρ
theorem pI (l:List Str):plainT (.lst (l.map .str))=true:=by simp only [plainT]; exact bR (fun _=>by simp [plainT]) l
theorem vv (l:List Str):dep (.lst (l.map .str))≤100:=by have:=cL (f:=T.str) (n:=0) (fun _=>by simp [dep]) l; simp only [dep]; omega
section
variable {P:Program} {w:World} {K:PySem.W.Frag} {mg:Str→Option Value} {base:Heap}
abbrev Pr:List Str:=["_law_rows","_law_stack","_law_cell","_law_words_here","_law_later","_law_number","_law_move","_law_name"]
theorem Dz:aI Pr ["_law_rows","_law_stack","_law_cell","_law_words_here","_law_later"] (aj vm):=L2.gI
theorem LU {f:Addr} {fd:FuncData} (D:Df K mg "_law_lay" vm ["_law_rows","_law_stack","_law_cell","_law_words_here","_law_later"] f fd) (M:LM mg) (c1:bW P w K mg base "_law_operand" ["_law_number","_law_words_here"] 1 (bS K 2 gv))
  (c2:bW P w K mg base "_law_simple" ["_law_number","_law_words_here","_law_later"] 3 (bS K 3 yQ)) :
  bW P w K mg base "_law_lay" ["_law_rows","_law_stack","_law_cell","_law_words_here","_law_later"] 4 (qo K [true,true,false,false,false] Pq):=by
 obtain ⟨jo,ic,bH,bI,bJ,bK⟩:=c1
 obtain ⟨Pt,MM,DA,DB,DC,DD⟩:=c2
 refine D.ji (Tg D.F Dz rfl fun bD A outer s H E as Ox hr ts q hl hG=>?_)
 have nd:=Dz.nd
 have hu:=bp.fz hr
 obtain ⟨rs,cp,c,ys,pl,rfl,G,ZN,LJ,hq⟩:=hG
 have n0:0≤c / 8 * 48271 % 2147483647:=k_ _ (by decide)
 have n1:c / 8 * 48271 % 2147483647 < 2147483647:=mB _ (by decide)
 have n2:c / 8 * 48271 % 2147483647 < 2147483648:=by omega
 have d3:0≤c / 8 * 48271 % 2147483647 / 3∧c / 8 * 48271 % 2147483647 / 3 < 2147483648:=⟨by omega,by omega⟩
 have Ay:(rs.map ax).length < sizeLine:=by rw [b_]; exact fits (by omega)
 have Pu:(cp.map T.str).length < sizeLine:=by rw [b_]; exact fits (by omega)
 have one:∀ {r:Rw} {eD:List Str},oO ys pl cp [r] eD→q [.lst (rs.map ax ++ [ax r]),.lst (eD.map .str)] (.vw .bh):=fun {r eD} h=>by
  have:=hq [r] eD h
  rw [pX] at this
  exact this
 have push:∀ x:Str,(cp ++ [x]).map T.str=cp.map T.str ++ [T.str x]:=fun x=>by rw [pX]; rfl
 refine ⟨_,(af (aP (i:=5) nd rfl (Or.inl rfl) (VP.vx (aT (VP.vr (fP (VP.vr (bb (aa 2) (VP.vr ag))) (VP.vr ag))) (VP.vr ag))) (Cd (by decide)))
   (af (aP (i:=6) nd rfl (Or.inl rfl) (VP.vx (aT (aa 2) (VP.vr ag))) (Cd (by decide)))
   (ky.weak (u:=(Dy q rs cp c (c / 8 * 48271 % 2147483647) (c % 8) ys pl)) (ah (aL (VW.vc (c9 (br hu (aa 6) (VP.vr ag)) (cy (iP (VP.vr (aE aA aB (by rfl) M.len gC (ak (aa 1) aw))) (VP.vr ag)))))
     (af (a_ (dy 0 t5 t6 bg ba (ae (VP.ve (aX (ae (VP.ve ao) (ae (VP.ve (aM bK (hr.mono (by decide)) (by rfl) bH bI bJ (ae (aq 5) (ae (aq 3) ai)))) ai)))) ai)))
     (ah (a_ (dy 1 t5 t6 bg ba (ae (VP.ve ao) ai)))))
     (ky.weak (u:=(Dy q rs cp c (c / 8 * 48271 % 2147483647) (c % 8) ys pl)) (ah (aL (VW.vc (c9 (br hu (aa 6) (VP.vr ag)) (cy (iP (VP.vr (aE aA aB (by rfl) M.len gC (ak (aa 1) aw))) (VP.vr ag)))))
       (af (a_ (dy 1 t5 t6 bg ba (ae (VP.ve ao) ai)))
       (ah (aL (br hu (VP.vr (aT (aa 5) (VP.vr ag))) (VP.vr ag))
         (ah (a_ (dy 0 t5 t6 bg ba (ae (VP.ve (aX (ae (VP.ve ao) (ae (VP.ve (aM bK (hr.mono (by decide)) (by rfl) bH bI bJ (ae (VP.ve (bb (aa 5) (VP.vr ag))) (ae (aq 3) ai)))) ai)))) ai))))
         (af (aP (i:=7) nd rfl (Or.inl rfl) (VP.vx (aQ (aa 3) (VP.vr (aT (VP.vr (bb (aa 5) (VP.vr ag))) (VP.vr ag))))) (Cd (by decide)))
         (af (a_ (dy 0 t5 t6 bg ba (ae (VP.ve (aX (ae (VP.ve ao) (ae (aq 7) ai)))) ai)))
         (ah (a_ (dy 0 t5 t6 bg ba (ae (VP.ve (aX (ae (VP.ve ao) (ae (aq 7) (ae (aq 7) (ae (VP.ve ao) (ae (VP.ve ag) ai))))))) ai)))))))))
       (ky.weak (u:=(Dy q rs cp c (c / 8 * 48271 % 2147483647) (c % 8) ys pl)) (ah (aL (VW.vc (c9 (br hu (aa 6) (VP.vr ag)) (c9 (kx hu (aa 1) (VP.vr (bL ai))) (cy (br hu (VP.vr (aQ (aa 1) (VP.vr (dZ (VP.vr ag))))) (VP.vr ao))))))
         (af (a_ (dy 0 t5 t6 bg ba (ae (VP.ve (aX (ae (VP.ve ao) ai))) ai)))
         (ah (n9 1 (VP.ve ao) (VP.vr (dZ (VP.vr ag))))))
         (ky.weak (u:=(Dy q rs cp c (c / 8 * 48271 % 2147483647) (c % 8) ys pl)) (ah (aL (VW.vc (c9 (br hu (aa 6) (VP.vr ag)) (cy (kx hu (aa 1) (VP.vr (bL ai))))))
           (af (a_ (dy 0 t5 t6 bg ba (ae (VP.ve (aX (ae (VP.ve ao) ai))) ai)))
           (ah (a_ (B2 1 PySem.F.slot_list_pop PySem.F.type_list_pop BI yt))))
           (ky.weak (u:=(Dy q rs cp c (c / 8 * 48271 % 2147483647) (c % 8) ys pl)) (ah (a_ (dy 0 t5 t6 bg ba (ae (VP.ve (aM DD (hr.mono (by decide)) (by rfl) DA DB DC (ae (aq 5) (ae (aq 3) (ae (aq 4) ai))))) ai)))) ?w5))) ?w4))) ?w3))) ?w2))) ?w1))),?_⟩
 case w5 =>
  rintro d ρ ⟨⟨nv,rfl⟩,kk⟩
  exact ⟨rfl,_,ys,pl,rfl,G,n0,n2,fun r hs=>⟨Ay,kk _ (one (.inr (.inr (.inr (.inr (.inr ⟨r,hs,rfl,rfl⟩))))))⟩⟩
 case w4 =>
  rintro d ρ ⟨⟨nv,rfl⟩,kk⟩
  refine bP (fun _=>?_) (fun _=>dH rfl ⟨⟨nv,rfl⟩,kk⟩)
  refine ⟨kd _,pI cp,rfl,vv cp,?_⟩
  rcases M6 cp with e | ⟨s0,x,e⟩
  · subst e; exact dH rfl ⟨⟨nv,rfl⟩,kk⟩
  · have en:eqT (.lst (cp.map .str)) (.lst [])=false:=by rw [e]; cases s0 <;> simp [eqT,eQ]
    refine KQ (by show (!eqT (.lst (cp.map .str)) (.lst []))=true; rw [en]; rfl) ⟨jW (by simp),Ay,rfl,T.str x,?_,?_⟩
    · rw [e]; simp
    · have e2:(cp.map T.str).dropLast=s0.map T.str:=by rw [e]; simp
      refine kk _ ?_
      show q [.lst (rs.map ax ++ [ax .fin]),.lst ((cp.map T.str).dropLast)] _
      rw [e2]
      exact one (.inr (.inr (.inr (.inr (.inl ⟨s0,x,by rw [e,Rv],rfl,rfl⟩)))))
 case w3 =>
  rintro d ρ ⟨⟨nv,rfl⟩,kk⟩
  refine bP (fun _=>?_) (fun _=>dH rfl ⟨⟨nv,rfl⟩,kk⟩)
  refine ⟨kd _,pI cp,rfl,vv cp,?_⟩
  rcases M6 cp with e | ⟨s0,x,e⟩
  · subst e; exact dH rfl (dH rfl ⟨⟨nv,rfl⟩,kk⟩)
  · have en:eqT (.lst (cp.map .str)) (.lst [])=false:=by rw [e]; cases s0 <;> simp [eqT,eQ]
    have ex:ju (cp.map T.str) (-1)=some (T.str x):=by rw [e,Rv,pX]; exact nR _ _
    refine KQ (by show (!eqT (.lst (cp.map .str)) (.lst []))=true; rw [en]; rfl) ⟨_,ex,bP (fun hx=>?_) (fun _=>⟨⟨nv,rfl⟩,kk⟩)⟩
    have My:x="if":=hx
    subst My
    have F9:(cp.map T.str).length=s0.length+1:=by rw [e]; simp
    refine ⟨jW (by simp),Ay,s0.length,?_,kk _ ?_⟩
    · unfold vK
      rw [F9,if_neg (by decide),if_pos (by omega)]
      congr 1
      omega
    · have e2:(cp.map T.str).set s0.length (T.str "else")=(s0 ++ ([("else" : Str)]:List Str)).map T.str:=by rw [e]; simp
      show q [.lst (rs.map ax ++ [ax .OS]),.lst ((cp.map T.str).set s0.length (T.str "else"))] _
      rw [e2]
      exact one (.inr (.inr (.inr (.inl ⟨s0,by rw [e]; simp,rfl,rfl⟩))))
 case w2 =>
  rintro d ρ ⟨⟨nv,rfl⟩,kk⟩
  refine bP (fun _=>?_) (fun _=>dH rfl ⟨⟨nv,rfl⟩,kk⟩)
  refine bP (fun _=>?_) (fun _=>⟨⟨nv,rfl⟩,kk⟩)
  refine ⟨Pu,(by show (0:Int) < 3; decide),bP (fun _=>?_) (fun _=>?_)⟩
  · refine ⟨⟨by decide,by decide⟩,rfl,_,ys,rfl,G.y6,d3.1,d3.2,fun o ho=>⟨jW (by simp),Ay,kk _ ?_⟩⟩
    have:=one (r:=.Ew o) (.inr (.inl ⟨o,ho,rfl,rfl⟩))
    rw [push] at this
    exact this
  · obtain ⟨y,hy,ey⟩:=kG G.y6 (n:=c / 8 * 48271 % 2147483647 / 3) (m:=4) (by decide) (by decide)
    refine ⟨⟨by decide,by decide⟩,(by show (0:Int) < 4; decide),_,ey,jW (by simp),Ay,jW (by simp),?_,kk _ ?_⟩
    · rw [mf,b_]; exact fits (by simp; omega)
    · have:=hq [.Ew (.nm y),.Gi y (.nm y) "minus" (.nu 1)] _ (.inr (.inr (.inl ⟨y,hy,rfl,rfl⟩)))
      rw [push,pX] at this
      show q [.lst ((rs.map ax ++ [ax (.Ew (.nm y))]) ++ [ax (.Gi y (.nm y) "minus" (.nu 1))]),_] _
      rw [M_]
      exact this
 case w1 =>
  rintro d ρ ⟨⟨nv,rfl⟩,kk⟩
  refine bP (fun _=>?_) (fun _=>dH rfl ⟨⟨nv,rfl⟩,kk⟩)
  refine bP (fun _=>?_) (fun _=>⟨⟨nv,rfl⟩,kk⟩)
  refine ⟨rfl,_,ys,rfl,G.y6,n0,n2,fun o ho=>⟨jW (by simp),Ay,Pu,kk _ ?_⟩⟩
  have:=one (r:=.Ld o) (.inl ⟨o,ho,rfl,rfl⟩)
  rw [push] at this
  exact this
 exact ⟨⟨by decide,by decide⟩,.inr ⟨by decide,by decide⟩,(by show (0:Int) < 2147483647; decide),(by show (0:Int) < 8; decide),⟨none,rfl⟩,fun _ h=>h⟩
end
def II (ts:List T) (q:Rt→Prop):Prop:=∃ (c:Int) (ys:List Str),ts=[.int c,.lst (ys.map .str)]∧ys.length=6∧∀ pl,sO ys pl→1≤pl.length→pl.length≤3→q (.fr (.lst (pl.map bj)))
section
variable {P:Program} {w:World} {K:PySem.W.Frag} {mg:Str→Option Value} {base:Heap}
abbrev DE:List Str:=["_law_cell","_law_words_here","_law_number","_law_plan_here","_law_k","_law_parameters"]
theorem yS:aI DE ["_law_cell","_law_words_here"] (aj pD):=L2.gI
theorem xv:(DE ++ (["_law_j"]:List Str)).Nodup:=by decide +kernel
theorem Ha {f:Addr} {fd:FuncData} (D:Df K mg "_law_plan" pD ["_law_cell","_law_words_here"] f fd) (M:LM mg):bW P w K mg base "_law_plan" ["_law_cell","_law_words_here"] 1 (bS K 2 II):=by
 refine D.ji (jU D.F yS rfl fun bD A outer s H E Ox hr ts q hG=>?_)
 have nd:=yS.nd
 have np:∀ {i:Nat},aY ⟨H,[],Ox⟩ i:=ka
 refine ⟨_,(af (aP (i:=2) nd rfl (Or.inr rfl) (VP.vx (aT (aa 0) (VP.vr (jR (VP.vr ag) (VP.vr ag))))) np)
   (af (dC (i:=3) nd rfl (Or.inl rfl) (VP.vx (bL ai)) np)
   (af (cF x8 rfl (cW (by rfl) M.range (VP.vr (bt (VP.vr ag) (VP.vr (aT (aa 2) (VP.vr ag)))))) (aW (i:=4) nd rfl (Or.inl rfl) np)
     (af (aP (i:=2) nd rfl (Or.inr rfl) (VP.vx (aT (VP.vr (bt (VP.vr (bt (VP.vr (fP (aa 2) (aa 2))) (VP.vr (fP (VP.vr ag) (aa 2))))) (aa 4))) (VP.vr ag))) np)
     (af (FL (i:=5) (ts:=["_law_j"]) nd rfl (Or.inl rfl) rfl (by rfl) (cW (by rfl) M.range (VP.vr (aT (aa 2) (VP.vr ag)))) (fun _ _ _ _ _ _=>(aW (i:=6) xv rfl (Or.inl rfl) np)) (fun _ _ _ _ _ _=>kz) (fun _ _ _ _ _ _=>(VP.ve (aQ (aa 1) (VP.vr (aT (VP.vr (bt (VP.vr (bb (aa 2) (VP.vr ag))) (aa 6))) (VP.vr ag)))))) np)
     (ah (a_ (dy 3 t5 t6 bg ba (ae (VP.ve (aX (ae (VP.ve (aQ (aa 1) (aa 4))) (ae (VP.ve (eE jB mj (by rfl) M.tuple nC (ak (aa 5) aw))) ai)))) ai)))))))
   (ah (aD (gN 3 np)))))),fun _=>?_⟩
 obtain ⟨c,ys,rfl,xu,hq⟩:=hG
 refine ⟨⟨by decide,by decide,by decide⟩,(by show (0:Int) < 10 ^ (9:Int).toNat; decide),kd _,(by show (0:Int) < 3; decide),?_⟩
 have m0:0≤c % (10:Int) ^ (9:Int).toNat:=k_ _ (by decide)
 have m1:c % (10:Int) ^ (9:Int).toNat < 1000000000:=by rw [OU]; exact mB _ (by decide)
 have t0:0≤c % (10:Int) ^ (9:Int).toNat % 3:=k_ _ (by decide)
 have t1:c % (10:Int) ^ (9:Int).toNat % 3 < 3:=mB _ (by decide)
 refine ⟨(by show -(2 ^ 62:Int)≤1+c % 10 ^ (9:Int).toNat % 3; omega),(by show 1+c % 10 ^ (9:Int).toNat % 3 < (2 ^ 62:Int); omega),?_⟩
 refine cT (fun k ρ=>∃ n kv pv ts pl,ρ=[some (.int c,false),some (.lst (ys.map .str),false),some (.int n,false),some (.lst ts,true),kv,pv]∧ts=pl.map bj∧0≤n∧n < 2147483648∧pl.length=k∧sO ys pl)
  ⟨_,none,none,_,[],rfl,rfl,m0,by omega,rfl,fun k f ps e=>by simp at e⟩ ?_ ?_
 · rintro k ρ hk ⟨n,kv,pv,_,pl,rfl,rfl,p0,p1,rfl,bC⟩
   have Yp:pl.length < 3:=by omega
   refine ⟨.inl ⟨by omega,by omega⟩,.inl ⟨by decide,by decide⟩,(by show (0:Int) < 2147483647; decide),rfl,(by show (0:Int) < 3; decide),?_⟩
   have g0:0≤(n * n+48271 * n+(0+(pl.length:Int))) % 2147483647:=k_ _ (by decide)
   have g1:(n * n+48271 * n+(0+(pl.length:Int))) % 2147483647 < 2147483647:=mB _ (by decide)
   have u0:0≤(n * n+48271 * n+(0+(pl.length:Int))) % 2147483647 % 3:=k_ _ (by decide)
   have u1:(n * n+48271 * n+(0+(pl.length:Int))) % 2147483647 % 3 < 3:=mB _ (by decide)
   refine ⟨(by show -(2 ^ 62:Int)≤(n * n+48271 * n+(0+(pl.length:Int))) % 2147483647 % 3; omega),(by show (n * n+48271 * n+(0+(pl.length:Int))) % 2147483647 % 3 < (2 ^ 62:Int); omega),?_⟩
   refine ⟨by rw [oA]; exact small (by show ((n * n+48271 * n+(0+(pl.length:Int))) % 2147483647 % 3).toNat≤1000; omega),?_⟩
   refine jf (fun _=>true) (fun t=>match t with | .int j=>.str (ys.getD (((n * n+48271 * n+(0+(pl.length:Int))) % 2147483647 / 3+j) % 4).toNat Str.empty) | _=>.bh) ?_ ?_
   · intro t ht _ r hr
     obtain ⟨i,hi,e⟩:=List.mem_iff_getElem.mp ht
     obtain ⟨_,rfl⟩:=oB (by rw [j_ hi,e]:(rangeT _ _)[i]?=some t)
     rw [if_pos rfl] at hr
     exact ⟨⟨by decide,by decide⟩,(by show (0:Int) < 4; decide),_,CB xu _,hr⟩
   · generalize Je:(n * n+48271 * n+(0+(pl.length:Int))) % 2147483647=n' at g0 g1 u0 u1
     have V':pl.length < ys.length:=by omega
     have ek:ju (ys.map T.str) (0+(pl.length:Int))=some (T.str ys[pl.length]):=by
      rw [IY]
      refine au ?_
      rw [k9,j_ V']
      rfl
     have Yq:(((rangeT 0 (n' % 3).toNat).filter fun _=>true).map fun t=>match t with | .int j=>T.str (ys.getD ((n' / 3+j) % 4).toNat Str.empty) | _=>.bh)=((List.range (n' % 3).toNat).map fun j=>ys.getD ((n' / 3+((j:Nat):Int)) % 4).toNat Str.empty).map T.str:=by
      unfold rangeT
      rw [QG.mpr (fun _ _=>rfl),List.map_map,List.map_map]
      apply List.map_congr_left
      intro j _
      show T.str (ys.getD ((n' / 3+(0+(j:Int))) % 4).toNat Str.empty)=T.str (ys.getD ((n' / 3+(j:Int)) % 4).toNat Str.empty)
      rw [IY]
     rw [Yq]
     refine ⟨_,ek,jW (by simp),by rw [b_]; exact fits (by omega),n',_,_,_,pl ++ [(ys[pl.length],(List.range (n' % 3).toNat).map fun j=>ys.getD ((n' / 3+((j:Nat):Int)) % 4).toNat Str.empty)],rfl,?_,g0,by omega,by simp,?_⟩
     · rw [pX]; rfl
     · intro k' f' T_ e
       by_cases fN:k' < pl.length
       · rw [vI fN] at e
         exact bC k' f' T_ e
       · by_cases he:k'=pl.length
         · subst he
           rw [EE (du _),Nat.sub_self] at e
           simp only [QB,Option.some.injEq,Prod.mk.injEq] at e
           obtain ⟨e1,e2⟩:=e
           subst e1 e2
           exact ⟨j_ V',n' / 3,(n' % 3).toNat,by omega,rfl⟩
         · rw [List.getElem?_eq_none (by simp; omega)] at e
           cases e
 · rintro ρ ⟨n,kv,pv,_,pl,rfl,rfl,p0,p1,hlen,bC⟩
   exact hq pl bC (by omega) (by omega)
end
def vz (ts:List T) (q:Rt→Prop):Prop:=∃ (ns:List Int) (ys:List Str) (pl:Plan),ts=[.lst (ns.map .int),.lst (ys.map .str),.lst (pl.map bj)]∧ns.length≤63∧Given ys pl∧1≤pl.length ∧
 ∀ rs,Pre ys pl pl.length rs→rs.length≤60→q (.fr (.lst (rs.map ax)))
theorem yT {α:Type} (f:α→T) (ns:List α) (lo hi:Option Int):∃ ms:List α,cm (ns.map f) lo hi=ms.map f∧ms.length≤ns.length:=by
 unfold cm
 rw [b_,← List.map_drop,← List.map_take]
 refine ⟨_,rfl,?_⟩
 rw [EH,IV]
 omega
theorem pJ {α:Type} (f:α→T) (ts:List α) (k:Nat) (h:k≤ts.length):cm (ts.map f) (some (k:Int)) none=(ts.drop k).map f:=by
 unfold cm
 rw [b_,HT.km,HT.iH,Nat.min_eq_left h,← List.map_drop,← List.map_take,MW (by rw [IV]; omega)]
theorem ints_map:∀ ms:List Int,intsOf (ms.map T.int)=some ms
 | []=>rfl
 | m :: ms=>by simp only [jr,intsOf,ints_map ms]; rfl
section
variable {P:Program} {w:World} {K:PySem.W.Frag} {mg:Str→Option Value} {base:Heap}
abbrev Az:List Str:=["_law_cells","_law_words_here","_law_plan_here","_law_rows","_law_k","_law_stack","_law_start","_law_stop","_law_share","_law_cell","_law_word"]
theorem pK:aI Az ["_law_cells","_law_words_here","_law_plan_here"] (aj gu):=L2.gI
theorem xw {f:Addr} {fd:FuncData} (D:Df K mg "_law_program" gu ["_law_cells","_law_words_here","_law_plan_here"] f fd) (M:LM mg) (c1:bW P w K mg base "_law_operand" ["_law_number","_law_words_here"] 1 (bS K 2 gv))
  (c2:bW P w K mg base "_law_lay" ["_law_rows","_law_stack","_law_cell","_law_words_here","_law_later"] 4 (qo K [true,true,false,false,false] Pq)) :
  bW P w K mg base "_law_program" ["_law_cells","_law_words_here","_law_plan_here"] 5 (bS K 3 vz):=by
 obtain ⟨jo,ic,bH,bI,bJ,bK⟩:=c1
 obtain ⟨Wa,Uy,Pw,Px,Py,Pz⟩:=c2
 refine D.ji (jU D.F pK rfl fun bD A outer s H E Ox hr ts q hG=>?_)
 have nd:=pK.nd
 have hu:=bp.fz hr
 have np:∀ {i:Nat},aY ⟨H,[],Ox⟩ i:=ka
 have Uz:∀ {is:List Nat},∀ i∈is,aY ⟨H,[],Ox⟩ i:=fun i _=>ka
 obtain ⟨ns,ys,pl,rfl,Ss,G,Xi,hq⟩:=hG
 refine ⟨_,(af (dC (i:=3) nd rfl (Or.inl rfl) (VP.vx (bL ai)) np)
   (af (cF x8 rfl (cW (by rfl) M.range (VP.vr (aE aA aB (by rfl) M.len gC (ak (aa 2) aw)))) (aW (i:=4) nd rfl (Or.inl rfl) np)
     (af (a_ (dy 3 t5 t6 bg ba (ae (VP.ve (aX (ae (VP.ve ao) (ae (VP.ve (aQ (VP.vr (aQ (aa 2) (aa 4))) (VP.vr ag))) (ae (VP.ve (aQ (VP.vr (aQ (aa 2) (aa 4))) (VP.vr ag))) ai))))) ai)))
     (af (dC (i:=5) nd rfl (Or.inl rfl) (VP.vx (bL ai)) np)
     (af (aP (i:=6) nd rfl (Or.inl rfl) (VP.vx (bb (VP.vr (fP (aa 4) (VP.vr (aE aA aB (by rfl) M.len gC (ak (aa 0) aw))))) (VP.vr (aE aA aB (by rfl) M.len gC (ak (aa 2) aw))))) np)
     (af (aP (i:=7) nd rfl (Or.inl rfl) (VP.vx (bb (VP.vr (fP (VP.vr (bt (aa 4) (VP.vr ag))) (VP.vr (aE aA aB (by rfl) M.len gC (ak (aa 0) aw))))) (VP.vr (aE aA aB (by rfl) M.len gC (ak (aa 2) aw))))) np)
     (af (aP (i:=8) nd rfl (Or.inl rfl) (VP.vx (b5 (aa 0) (ck (aa 6)) (ck (aa 7)))) np)
     (af (cF x8 rfl (ly (aq 8)) (aW (i:=9) nd rfl (Or.inl rfl) np)
       (ah (aL (iP (VP.vr (bt (VP.vr (aE aA aB (by rfl) M.len gC (ak (aa 3) aw))) (VP.vr (aE aA aB (by rfl) M.len gC (ak (aa 5) aw))))) (VP.vr (n5 (VP.vr ag) (VP.vr (fP (VP.vr ag) (VP.vr (n5 (VP.vr (n5 (VP.vr (aE aA aB (by rfl) M.len gC (ak (aa 2) aw))) (VP.vr ag))) (aa 4))))))))
         (ah (a_ (oi Pz (hr.mono (by decide)) (by rfl) Pw Px Py (nB 3 (nB 5 (iQ (aq 9) (iQ (aq 1) (iQ (VP.ve (b5 (aa 2) (ck (VP.vr (bt (aa 4) (VP.vr ag)))) dU)) sr))))))))
         ay)))
     (yo [5] (af (cF x8 rfl (ly (aq 5)) (aW (i:=10) nd rfl (Or.inl rfl) np)
       (ah (a_ (dy 3 t5 t6 bg ba (ae (VP.ve (aX (ae (VP.ve ao) ai))) ai)))))
     (af (a_ (dy 3 t5 t6 bg ba (ae (VP.ve (aX (ae (VP.ve ao) (ae (VP.ve (aM bK (hr.mono (by decide)) (by rfl) bH bI bJ (ae (VP.ve (aT (VP.vr (aE (qj rfl) zy (by rfl) M.sum Oz (ak (aa 8) aw))) (VP.vr (jR (VP.vr ag) (VP.vr ag))))) (ae (aq 1) ai)))) ai)))) ai)))
     (ah (aL (VW.vc (c9 (br hu (VP.vr (aT (aa 4) (VP.vr ag))) (VP.vr ag)) (cy (br hu (VP.vr (aT (VP.vr (aE aA aB (by rfl) M.len gC (ak (aa 8) aw))) (VP.vr ag))) (VP.vr ag)))))
       (ah (a_ (dy 3 t5 t6 bg ba (ae (VP.ve (aX (ae (VP.ve ao) ai))) ai))))
       ay)))) Uz))))))))
   (ah (aD (gN 3 np))))),fun _=>?_⟩
 have Yl:=G.p3
 have eT:((pl.map bj).length)=pl.length:=b_ _
 have eN:((ns.map T.int).length)=ns.length:=b_ _
 refine ⟨kd _,by omega,by omega,?_⟩
 refine cT (fun k ρ=>∃ kv a5 a6 a7 a8 a9 UA rt rs,ρ=[some (.lst (ns.map .int),false),some (.lst (ys.map .str),false),some (.lst (pl.map bj),false),some (.lst rt,true),kv,a5,a6,a7,a8,a9,UA]∧rt=rs.map ax∧Pre ys pl k rs∧rs.length+3 * (pl.length - k)≤60)
  ⟨none,none,none,none,none,none,none,_,[],rfl,rfl,.zero,by simp; omega⟩ ?_ ?_
 · rintro k ρ hk ⟨kv,a5,a6,a7,a8,a9,UA,_,rs,rfl,rfl,ll,hlen⟩
   rw [eT,Eg] at hk
   obtain ⟨p,hp⟩:∃ p:Str×List Str,p=pl[k]:=⟨_,rfl⟩
   obtain ⟨fn,r_⟩:=p
   have Wb:pl[k]?=some (fn,r_):=by rw [j_ hk,hp]
   have et:ju (pl.map bj) (0+(k:Int))=some (bj (fn,r_)):=by
    rw [IY]
    refine au ?_
    rw [k9,Wb]
    rfl
   have Yp:k < 3:=by omega
   have UB:(rs.map ax).length < sizeLine:=by rw [b_]; exact fits (by omega)
   refine ⟨_,et,_,au (j:=0) rfl,_,et,_,au (j:=1) rfl,jW (by simp),UB,kd _,.inl ⟨by show -(2 ^ 64:Int) < 0+(k:Int); omega,by show 0+(k:Int) < (2 ^ 64:Int); omega⟩,⟨by show (0:Int) < ((pl.map bj).length:Int); omega,by show ((pl.map bj).length:Int) < 1073741824; omega⟩,
    .inl ⟨by show -(2 ^ 64:Int) < 0+(k:Int)+1; omega,by show 0+(k:Int)+1 < (2 ^ 64:Int); omega⟩,⟨by show (0:Int) < ((pl.map bj).length:Int); omega,by show ((pl.map bj).length:Int) < 1073741824; omega⟩,?_⟩
   obtain ⟨ms,UC,TX⟩:=yT T.int ns (some ((0+(k:Int)) * ((ns.map T.int).length:Int) / ((pl.map bj).length:Int))) (some ((0+(k:Int)+1) * ((ns.map T.int).length:Int) / ((pl.map bj).length:Int)))
   show q_ (cm (ns.map T.int) (some ((0+(k:Int)) * ((ns.map T.int).length:Int) / ((pl.map bj).length:Int))) (some ((0+(k:Int)+1) * ((ns.map T.int).length:Int) / ((pl.map bj).length:Int)))) _ _ _ _
   rw [UC]
   refine oE (fun i ρ=>∃ b6 b7 b9 IJ rt st body cp,ρ=[some (.lst (ns.map .int),false),some (.lst (ys.map .str),false),some (.lst (pl.map bj),false),some (.lst rt,true),some (.int (0+(k:Int)),false),some (.lst st,true),b6,b7,some (.lst (ms.map .int),false),b9,IJ]∧rt=(rs ++ [Rw.df fn r_] ++ body).map ax∧st=cp.map .str∧Body ys (pl.drop (k+1)) cp body∧rs.length+1+body.length+cp.length+3 * (pl.length - 1 - k)≤58)
    ⟨_,_,_,_,_,_,[],[],rfl,by simp; rfl,rfl,.nil,by simp; omega⟩ ?_ ?_
   · rintro i z ρ hi ⟨b6,b7,b9,IJ,_,_,body,cp,rfl,rfl,rfl,hB,hb⟩
     refine ⟨.inl ⟨by decide,by decide⟩,bP (fun h=>?_) (fun _=>⟨b6,b7,_,IJ,_,_,body,cp,rfl,rfl,rfl,hB,hb⟩)⟩
     have hg:(((rs ++ [Rw.df fn r_] ++ body).map ax).length:Int)+((cp.map T.str).length:Int) < 56 - 3 * (((pl.map bj).length:Int) - 1 - (0+(k:Int))):=h
     have UD:cm (pl.map bj) (some (0+(k:Int)+1)) none=(pl.drop (k+1)).map bj:=by
      have:(0+(k:Int)+1)=((k+1:Nat):Int):=by omega
      rw [this]
      exact pJ bj pl (k+1) hk
     have DF:(rs ++ [Rw.df fn r_] ++ body).length=rs.length+1+body.length:=by simp only [mf,MY]
     rw [b_,b_,eT,DF] at hg
     refine ⟨rs ++ [Rw.df fn r_] ++ body,cp,z,ys,pl.drop (k+1),?_,⟨G.y6,G.sm,by rw [IV]; omega,fun p hp=>G.p4 p (M8 hp)⟩,by rw [DF]; omega,by omega,fun nw eD PB=>?_⟩
     · rw [← UD]; rfl
     · have ZO:=Gj PB
       refine ⟨b6,b7,_,IJ,_,_,body ++ nw,eD,rfl,?_,rfl,.step hB PB,by rw [mf]; omega⟩
       rw [M_]
   · rintro ρ ⟨b6,b7,b9,IJ,_,_,body,cp,rfl,rfl,rfl,hB,hb⟩
     have DF:(rs ++ [Rw.df fn r_] ++ body).length=rs.length+1+body.length:=by simp only [mf,MY]
     refine oE (f:=T.str) (xs:=cp) (fun i ρ=>∃ IJ rt,ρ=[some (.lst (ns.map .int),false),some (.lst (ys.map .str),false),some (.lst (pl.map bj),false),some (.lst rt,true),some (.int (0+(k:Int)),false),some (.lst (cp.map .str),false),b6,b7,some (.lst (ms.map .int),false),b9,IJ]∧rt=(rs ++ [Rw.df fn r_] ++ body ++ List.replicate i Rw.fin).map ax)
      ⟨IJ,_,rfl,by simp⟩ ?_ ?_
     · rintro i x ρ hi ⟨Yr,_,rfl,rfl⟩
       have HJ:i < cp.length:=(gh.mp hi).1
       refine ⟨jW (by simp),by rw [b_,mf,DF,EF]; exact fits (by omega),_,_,rfl,?_⟩
       rw [List.replicate_succ',← M_,pX (l₂:=[Rw.fin])]
       rfl
     · rintro ρ ⟨Yr,_,rfl,rfl⟩
       have PC:(rs ++ [Rw.df fn r_] ++ body ++ List.replicate cp.length Rw.fin).length=rs.length+1+body.length+cp.length:=by rw [mf,DF,EF]
       have v0:0≤ms.sum % 10 ^ (6:Int).toNat:=by rw [OW]; exact k_ _ (by decide)
       have v1:ms.sum % 10 ^ (6:Int).toNat < 2147483648:=by rw [OW]; have:=mB ms.sum (show (0:Int) < 1000000 by decide); omega
       refine ⟨ms,ints_map ms,⟨by decide,by decide,by decide⟩,(by show (0:Int) < 10 ^ (6:Int).toNat; decide),rfl,_,ys,rfl,G.y6,v0,v1,fun o ho=>⟨jW (by simp),by rw [b_,PC]; exact fits (by omega),(by show (0:Int) < 2; decide),?_⟩⟩
       have fin:∀ sk:List Rw,(sk=[]∨sk=[Rw.skip])→Pre ys pl (k+1) (rs ++ (Rw.df fn r_ :: (body ++ (List.replicate cp.length Rw.fin ++ (Rw.give o :: sk)))))∧(rs ++ (Rw.df fn r_ :: (body ++ (List.replicate cp.length Rw.fin ++ (Rw.give o :: sk))))).length+3 * (pl.length - (k+1))≤60:=fun sk Wc=>by
        refine ⟨.succ ll Wb hB ho Wc,?_⟩
        have:sk.length≤1:=by rcases Wc with rfl | rfl <;> simp
        simp only [mf,IW,EF]
        omega
       have e0:(rs ++ [Rw.df fn r_] ++ body ++ List.replicate cp.length Rw.fin).map ax ++ [ax (Rw.give o)]=(rs ++ (Rw.df fn r_ :: (body ++ (List.replicate cp.length Rw.fin ++ (Rw.give o :: []))))).map ax:=by
        simp [M_]
       have e1:(rs ++ [Rw.df fn r_] ++ body ++ List.replicate cp.length Rw.fin).map ax ++ [ax (Rw.give o)] ++ [ax Rw.skip]=(rs ++ (Rw.df fn r_ :: (body ++ (List.replicate cp.length Rw.fin ++ (Rw.give o :: [Rw.skip]))))).map ax:=by
        simp [M_]
       refine bP (fun _=>?_) (fun _=>dH rfl ⟨_,_,_,_,_,_,_,_,_,rfl,e0,fin [] (.inl rfl)⟩)
       refine ⟨(by show (0:Int) < 2; decide),bP (fun _=>?_) (fun _=>⟨_,_,_,_,_,_,_,_,_,rfl,e0,fin [] (.inl rfl)⟩)⟩
       refine ⟨jW (by simp),?_,⟨_,_,_,_,_,_,_,_,_,rfl,e1,fin [.skip] (.inr rfl)⟩⟩
       rw [mf,b_,PC]
       exact fits (by simp; omega)
 · rintro ρ ⟨kv,a5,a6,a7,a8,a9,UA,_,rs,rfl,rfl,ll,hlen⟩
   rw [eT,Eg] at ll
   exact hq rs ll (by omega)
end
end dR
namespace DG
open PySem L2 VT EX
def top (i:Nat):Stmt:=PySem.Challenge.pw_slicewise_k07_blocks_refused.main.body.getD i (.Pass ⟨0,0,0,0⟩)
abbrev gw:Stmt:=inClass (top 8) 0
abbrev ja:Stmt:=inClass (top 9) 0
structure DX (K:PySem.W.Frag) (mg:Str→Option Value) (x qual:Str) (st:Stmt) (S C f:Addr) (fd:FuncData):Prop where
 F:Bf K "__init__" qual st f fd
 m:mg x=some (.ref C)
 kp:PySem.W.keepIn K (.ref C)=true
 b:Binds K fd ["self","place"] []
 xc:XC K C [S]
 xf:XF K C
 hi:PySem.W.findIn K (.ref C) "__init__" = some (some (.ref f))
 ht:PySem.W.typeIn K (.ref f)=some (.type "function")
theorem xx:aI ["self","place"] ["self","place"] (aj gw):=L2.gI
theorem AA:aI ["self","place"] ["self","place"] (aj ja):=L2.gI
section
variable {P:Program} {w:World} {K:PySem.W.Frag} {mg:Str→Option Value} {base:Heap} {S C f:Addr} {fd:FuncData}
theorem xy (D:DX K mg "NoBlock" "NoBlock.__init__" gw S C f fd) (xs:XS K S) (mS:mg "SliceError" = some (.ref S)):XP P w K mg base "NoBlock" C 1:=by
 refine ⟨D.m,D.kp,⟨_,D.xc⟩,f,fd,D.hi,D.ht,D.b,D.F.ok xx (fun vs H Q E h=>?_) fun bD A outer s H vs Q E hr h=>?_⟩
 · obtain ⟨e,i,rfl,_⟩:=h; rfl
 · obtain ⟨e,i,rfl,h0,h1,he,hq⟩:=h
   refine ⟨_,nN (nq (vf xs (by rfl) mS D.xc (bu (pv 0) (bu (Iv (pv 1)) cR)))) (rT (Iw D.xc D.xf (pv 0) (pv 1))),?_⟩
   refine ⟨_,rfl,_,rfl,i,rfl,h0,h1,fun x=>⟨e,x,rfl,he,_,rfl,_,rfl,e,i,rfl,rfl,he,hq⟩⟩
theorem AB (D:DX K mg "NoCall" "NoCall.__init__" ja S C f fd) (xs:XS K S) (mS:mg "SliceError" = some (.ref S)):XP P w K mg base "NoCall" C 1:=by
 refine ⟨D.m,D.kp,⟨_,D.xc⟩,f,fd,D.hi,D.ht,D.b,D.F.ok AA (fun vs H Q E h=>?_) fun bD A outer s H vs Q E hr h=>?_⟩
 · obtain ⟨e,i,rfl,_⟩:=h; rfl
 · obtain ⟨e,i,rfl,h0,h1,he,hq⟩:=h
   refine ⟨_,nN (nq (vf xs (by rfl) mS D.xc (bu (pv 0) (bu (Iv (pv 1)) cR)))) (rT (Iw D.xc D.xf (pv 0) (pv 1))),?_⟩
   refine ⟨_,rfl,_,rfl,i,rfl,h0,h1,fun x=>⟨e,x,rfl,he,_,rfl,_,rfl,e,i,rfl,rfl,he,hq⟩⟩
end
end DG
namespace Gen
open PySem L2 VT
def qb (rs:List Rw):List Str:=rs.foldl (fun st r=>kb st (wd r)) []
theorem DH (rs:List Rw) (r:Rw):qb (rs ++ [r])=kb (qb rs) (wd r):=by unfold qb; rw [List.foldl_append]; rfl
theorem vA {rs:List Rw} {i:Nat} {r:Rw} (h:rs[i]?=some r):qb (rs.take (i+1))=kb (qb (rs.take i)) (wd r):=by
 obtain ⟨hi,e⟩:=gh.mp h
 rw [← DH,← e,List.take_append_getElem]
def fE (x:Str):Str:=if x="else" then "if with else" else x
theorem LV (x:Str):(fE x="def")↔x="def":=by
 unfold fE
 split
 · rename_i h; subst h; constructor <;> intro h <;> exact absurd h (by decide +kernel)
 · exact Iff.rfl
theorem PD (x:Str):(fE x="if")↔x="if":=by
 unfold fE
 split
 · rename_i h; subst h; constructor <;> intro h <;> exact absurd h (by decide +kernel)
 · exact Iff.rfl
theorem IK {c:Bool} {p A B:Prop} [Decidable p] (e:c=decide p) (h1:p→A) (h2:¬ p→B):if c=true then A else B:=by
 rw [e]
 by_cases h:p
 · rw [if_pos (decide_eq_true h)]; exact h1 h
 · rw [if_neg (by rw [decide_eq_false h]; exact nL)]; exact h2 h
def oS (st:List Str):List T:=st.map fun x=>T.str (fE x)
theorem yU {α:Type} (f:α→T) (l:List α) (k:Nat) (h:k≤l.length):cm (l.map f) none (some (k:Int))=(l.take k).map f:=by
 unfold cm
 rw [b_,HT.iH,HT.km,List.drop_zero,Nat.sub_zero,Nat.min_eq_left h,List.map_take]
theorem pL {α:Type} (l:List α):cm l none (some (-1))=l.dropLast:=by
 unfold cm
 rw [HT.iH,List.drop_zero,Nat.sub_zero,List.dropLast_eq_take]
 congr 1
 show (if (-1:Int) < 0 then ((-1:Int)+(l.length:Int)).toNat else min (-1:Int).toNat l.length)=_
 rw [if_pos (by decide)]
 omega
theorem DI (st:List Str) (x:Str):(kb st x).length≤st.length+1:=by
 unfold kb
 split
 · rw [mf]; simp
 · split
   · rw [Hs]; omega
   · split
     · rw [mf,Hs]; simp
     · omega
theorem LW (rs:List Rw):∀ st:List Str,(rs.foldl (fun st r=>kb st (wd r)) st).length≤st.length+rs.length:=by
 induction rs with
 | nil=>intro st; simp
 | cons r rs ih=>intro st; rw [List.foldl_cons]; have:=ih (kb st (wd r)); have h2:=DI st (wd r); rw [IW]; omega
theorem Hb (rs:List Rw):(qb rs).length≤rs.length:=by have:=LW rs []; unfold qb; simpa using this
theorem Hc (st:List Str) (x:Str):(!gS st x)=match st.getLast? with
  | none=>!p_ (.str x) [.str "def",.str "skip"]
  | some l=>if x="give" then !decide (l="def") else if x="end" then decide (l="def") else if x="else" then !decide (l="if") else decide (x="def"):=by
 unfold gS
 cases st.getLast? with
 | none=>rfl
 | some l =>
   dsimp only
   by_cases h1:x="give"
   · rw [if_pos h1,if_pos h1]
   · rw [if_neg h1,if_neg h1]
     by_cases h2:x="else"
     · rw [if_pos h2,if_neg (by rw [h2]; decide +kernel),if_pos h2]
     · rw [if_neg h2]
       by_cases h3:x="end"
       · rw [if_pos h3,if_pos h3,Bool.not_not]
       · rw [if_neg h3,if_neg h3,if_neg h2,Bool.not_not]
end Gen
namespace pM
open PySem L2 VT Gen ym
open fH (ir iV)
def top (i:Nat):Stmt:=PySem.Challenge.pw_slicewise_k07_blocks_refused.main.body.getD i (.Pass ⟨0,0,0,0⟩)
abbrev gq:Stmt:=top 40
abbrev kY:Stmt:=top 41
abbrev gr:Stmt:=top 42
abbrev vk:Stmt:=top 43
abbrev s_call:Stmt:=top 44
abbrev i_:Stmt:=top 45
abbrev vm:Stmt:=top 46
abbrev pD:Stmt:=top 47
abbrev gu:Stmt:=top 48
abbrev h_:Stmt:=top 49
abbrev jm:Stmt:=top 50
abbrev kZ:Stmt:=top 51
abbrev tD:Stmt:=top 52
abbrev k6:Stmt:=top 53
abbrev yP:Stmt:=top 54
abbrev jI:Stmt:=top 55
structure MN (mg:Str→Option Value):Prop where
 list:mg "list" = none
 len:mg "len" = none
 range:mg "range" = none
def DJ (ts:List T) (q:Rt→Prop):Prop:=∃ (rs:List Rw) (i:Nat),ts=[.lst (rs.map ax),.int (i:Int)]∧i≤rs.length∧rs.length≤100∧q (.vw (.lst (oS (qb (rs.take i)))))
def yV (ts:List T) (q:Rt→Prop):Prop:=∃ (rs:List Rw) (i:Nat) (r:Rw),ts=[.lst (rs.map ax),.int (i:Int)]∧rs[i]?=some r∧rs.length≤100∧q (.vw (.bl (!gS (qb (rs.take i)) (wd r))))
def UE:Option Nat→T
 | none=>.bh
 | some i=>.int (i:Int)
def PF (ts:List T) (q:Rt→Prop):Prop:=∃ rs:List Rw,ts=[.lst (rs.map ax)]∧rs.length≤100∧q (.vw (UE (brk [] rs 0)))
section
variable {P:Program} {w:World} {K:PySem.W.Frag} {mg:Str→Option Value} {base:Heap}
abbrev LX:List Str:=["_law_rows","_law_at","_law_opened","_law_row"]
theorem yW:aI LX ["_law_rows","_law_at"] (aj tD):=L2.gI
theorem He {f:Addr} {fd:FuncData} (D:Df K mg "_law_open" tD ["_law_rows","_law_at"] f fd) (M:MN mg):bW P w K mg base "_law_open" ["_law_rows","_law_at"] 1 (bS K 2 DJ):=by
 refine D.ji (jU D.F yW rfl fun bD A outer s H E Ox hr ts q hG=>?_)
 have nd:=yW.nd
 have hu:=bp.fz hr
 have np:∀ {i:Nat},aY ⟨H,[],Ox⟩ i:=ka
 refine ⟨_,(af (aP (i:=2) nd rfl (Or.inl rfl) (VP.vx (bL ai)) np)
   (af (cF x8 rfl (ly (VP.ve (b5 (aa 0) dU (ck (aa 1))))) (aW (i:=3) nd rfl (Or.inl rfl) np)
     (af (aL (uC (VP.vr (aQ (aa 3) (VP.vr ag))) (VP.vr (aX (ae (VP.ve ao) (ae (VP.ve ao) (ae (VP.ve ao) ai))))))
       (ah (aP (i:=2) nd rfl (Or.inl rfl) (VP.vx (bt (aa 2) (VP.vr (bL (ae (VP.ve (aQ (aa 3) (VP.vr ag))) ai))))) np))
       ay)
     (af (aL (uC (VP.vr (aQ (aa 3) (VP.vr ag))) (VP.vr (aX (ae (VP.ve ao) (ae (VP.ve ao) ai)))))
       (ah (aP (i:=2) nd rfl (Or.inl rfl) (VP.vx (b5 (aa 2) dU (ck (VP.vr (dZ (VP.vr ag)))))) np))
       ay)
     (ah (aL (br hu (VP.vr (aQ (aa 3) (VP.vr ag))) (VP.vr ao))
       (ah (aP (i:=2) nd rfl (Or.inl rfl) (VP.vx (bt (VP.vr (b5 (aa 2) dU (ck (VP.vr (dZ (VP.vr ag)))))) (VP.vr (bL (ae (VP.ve ao) ai))))) np))
       ay)))))
   (ah (aD (VP.vx (VE.vp (aq 2))))))),fun _=>?_⟩
 obtain ⟨rs,i,rfl,hi,hn,hq⟩:=hG
 refine ⟨small (by simp),?_⟩
 show q_ (cm (rs.map ax) none (some (i:Int))) _ _ _ _
 rw [yU _ _ _ hi]
 refine oE (fun j ρ=>∃ b3,ρ=[some (.lst (rs.map ax),false),some (.int (i:Int),false),some (.lst (oS (qb ((rs.take i).take j))),false),b3]) ⟨_,rfl⟩ ?_ ?_
 · rintro j r ρ hr ⟨b3,rfl⟩
   rw [vA hr]
   have hl:=Hb ((rs.take i).take j)
   have O9:(qb ((rs.take i).take j)).length≤100:=by rw [EH,EH] at hl; omega
   generalize qb ((rs.take i).take j)=st at O9 ⊢
   obtain ⟨l,el⟩:=nH r
   rw [el]
   generalize wd r=x
   have e1:p_ (.str x) [.str "def",.str "if",.str "while"]=decide (x="def"∨x="if"∨x="while"):=by
    have:=kQ x ["def","if","while"]
    rw [show ([.str "def",.str "if",.str "while"]:List T)=(["def","if","while"]:List Str).map .str from rfl,this]
    simp
   have e2:p_ (.str x) [.str "give",.str "end"]=decide (x="give"∨x="end"):=by
    have:=kQ x ["give","end"]
    rw [show ([.str "give",.str "end"]:List T)=(["give","end"]:List Str).map .str from rfl,this]
    simp
   refine ⟨_,au (j:=0) rfl,small (by simp),rfl,rfl,?_⟩
   have Sr:(oS st).length≤100:=by unfold oS; rw [b_]; exact O9
   refine IK (c:=p_ (.str x) [.str "def",.str "if",.str "while"]) e1 (fun h=>?_) (fun h=>?_)
   · refine ⟨_,au (j:=0) rfl,small (by simp),small (by simp; omega),?_⟩
     refine ⟨_,au (j:=0) rfl,small (by simp),rfl,rfl,?_⟩
     have hg:kb st x=st ++ [x]:=by unfold kb; rw [if_pos h]
     have hx:x≠"else":=by rcases h with rfl | rfl | rfl <;> decide +kernel
     have hy:¬ (x="give"∨x="end"):=by rcases h with rfl | rfl | rfl <;> decide +kernel
     refine dH (c:=p_ (.str x) [.str "give",.str "end"]) (by rw [e2]; exact decide_eq_false hy) ?_
     refine ⟨_,au (j:=0) rfl,?_⟩
     refine dH (c:=decide (x="else")) (decide_eq_false hx) ?_
     have ho:oS (kb st x)=oS st ++ [.str x]:=by rw [hg]; unfold oS; rw [pX,jr,Hy]; unfold fE; rw [if_neg hx]
     rw [ho]
     exact ⟨_,rfl⟩
   · refine ⟨_,au (j:=0) rfl,small (by simp),rfl,rfl,?_⟩
     refine IK (c:=p_ (.str x) [.str "give",.str "end"]) e2 (fun h2=>?_) (fun h2=>?_)
     · have hg:kb st x=st.dropLast:=by unfold kb; rw [if_neg h,if_pos h2]
       have hx:x≠"else":=by rcases h2 with rfl | rfl <;> decide +kernel
       have ho:cm (oS st) none (some (-1))=oS (kb st x):=by rw [pL,hg]; unfold oS; rw [List.map_dropLast]
       refine ⟨_,au (j:=0) rfl,?_⟩
       refine dH (c:=decide (x="else")) (decide_eq_false hx) ?_
       rw [← ho]
       exact ⟨_,rfl⟩
     · refine ⟨_,au (j:=0) rfl,?_⟩
       refine bP (fun h3=>?_) (fun h3=>?_)
       · have hg:kb st x=st.dropLast ++ [("else" : Str)]:=by unfold kb; rw [if_neg h,if_neg h2,if_pos h3]
         have ho:oS (kb st x)=cm (oS st) none (some (-1)) ++ [.str "if with else"]:=by rw [pL,hg]; unfold oS; rw [pX,List.map_dropLast]; rfl
         have ZP:(cm (oS st) none (some (-1))).length≤100:=by rw [pL,Hs]; omega
         refine ⟨small (by simp),small (by simp; omega),?_⟩
         rw [ho]
         exact ⟨_,rfl⟩
       · have hg:kb st x=st:=by unfold kb; rw [if_neg h,if_neg h2,if_neg h3]
         rw [hg]
         exact ⟨_,rfl⟩
 · rintro ρ ⟨b3,rfl⟩
   rw [Mq]
   exact hq
abbrev DK:List Str:=["_law_rows","_law_at","_law_opened","_law_word"]
theorem rK:aI DK ["_law_rows","_law_at"] (aj k6):=L2.gI
theorem AD {f:Addr} {fd:FuncData} (D:Df K mg "_law_breaks" k6 ["_law_rows","_law_at"] f fd) (M:MN mg) (xA:bW P w K mg base "_law_open" ["_law_rows","_law_at"] 1 (bS K 2 DJ)):bW P w K mg base "_law_breaks" ["_law_rows","_law_at"] 2 (bS K 2 yV):=by
 obtain ⟨LY,Hf,xB,xC,xD,xE⟩:=xA
 refine D.ji (jU D.F rK rfl fun bD A outer s H E Ox hr ts q hG=>?_)
 have nd:=rK.nd
 have hu:=bp.fz hr
 have np:∀ {i:Nat},aY ⟨H,[],Ox⟩ i:=ka
 refine ⟨_,(af (aP (i:=2) nd rfl (Or.inl rfl) (VP.vx (aM xE (hr.mono (by decide)) (by rfl) xB xC xD (ae (aq 0) (ae (aq 1) ai)))) np)
   (af (aP (i:=3) nd rfl (Or.inl rfl) (VP.vx (aQ (VP.vr (aQ (aa 0) (aa 1))) (VP.vr ag))) np)
   (af (aL (br hu (aa 2) (VP.vr (bL ai)))
     (ah (aD (VP.vx (KO (aa 3) (VP.vr (aX (ae (VP.ve ao) (ae (VP.ve ao) ai))))))))
     ay)
   (af (aL (br hu (aa 3) (VP.vr ao))
     (ah (aD (VP.vx (yn hu (VP.vr (aQ (aa 2) (VP.vr (dZ (VP.vr ag))))) (VP.vr ao)))))
     ay)
   (af (aL (br hu (aa 3) (VP.vr ao))
     (ah (aD (VP.vx (ik hu (VP.vr (aQ (aa 2) (VP.vr (dZ (VP.vr ag))))) (VP.vr ao)))))
     ay)
   (af (aL (br hu (aa 3) (VP.vr ao))
     (ah (aD (VP.vx (yn hu (VP.vr (aQ (aa 2) (VP.vr (dZ (VP.vr ag))))) (VP.vr ao)))))
     ay)
   (ah (aD (VP.vx (ik hu (aa 3) (VP.vr ao))))))))))),fun _=>?_⟩
 obtain ⟨rs,i,r,rfl,hr,hn,hq⟩:=hG
 have hi:=(gh.mp hr).1
 refine ⟨rfl,rs,i,rfl,by omega,hn,?_⟩
 rw [Hc] at hq
 obtain ⟨l,el⟩:=nH r
 refine ⟨_,au (j:=i) (by rw [k9,hr]; rfl),?_⟩
 rw [el]
 refine ⟨_,au (j:=0) rfl,?_⟩
 generalize wd r=x at hq ⊢
 generalize qb (rs.take i)=st at hq ⊢
 rcases M6 st with e | ⟨s0,y,e⟩
 · subst e
   exact ⟨small (by simp),rfl,rfl,by decide,small (by simp),rfl,rfl,hq⟩
 · rw [List.concat_eq_append] at e
   subst e
   rw [List.getLast?_concat] at hq
   have eo:oS (s0 ++ [y])=oS s0 ++ [.str (fE y)]:=by unfold oS; rw [pX]; rfl
   have ne:oS (s0 ++ [y])≠[]:=by rw [eo]; simp
   obtain ⟨t1,Ys,et⟩:=Rz ne
   have hp:plainT (.lst (oS (s0 ++ [y])))=true:=by simp only [plainT]; exact bR (fun _=>rfl) _
   have hd:dep (.lst (oS (s0 ++ [y])))≤100:=by have:=cL (f:=fun x:Str=>T.str (fE x)) (n:=0) (fun _=>du _) (s0 ++ [y]); simp only [dep]; unfold oS; omega
   have ex:ju (oS (s0 ++ [y])) (-1)=some (T.str (fE y)):=by rw [eo]; exact nR _ _
   refine ⟨small (by simp),hp,rfl,hd,?_⟩
   refine dH (c:=eqT (.lst (oS (s0 ++ [y]))) (.lst [])) (by rw [et]; rfl) ?_
   have wD:q (.vw (.bl (if x="give" then !decide (y="def") else if x="end" then decide (y="def") else if x="else" then !decide (y="if") else decide (x="def")))):=hq
   have d1:decide (fE y="def")=decide (y="def"):=by rw [Hv]; simp [LV]
   have d2:decide (fE y="if")=decide (y="if"):=by rw [Hv]; simp [PD]
   refine bP (fun h=>?_) (fun h=>?_)
   · rw [if_pos h,← d1] at wD; exact ⟨_,ex,wD⟩
   · rw [if_neg h] at wD
     refine bP (fun h=>?_) (fun h=>?_)
     · rw [if_pos h,← d1] at wD; exact ⟨_,ex,wD⟩
     · rw [if_neg h] at wD
       refine bP (fun h=>?_) (fun h=>?_)
       · rw [if_pos h,← d2] at wD; exact ⟨_,ex,wD⟩
       · rw [if_neg h] at wD; exact wD
abbrev PH:List Str:=["_law_rows","_law_at"]
theorem DM:aI PH ["_law_rows"] (aj yP):=L2.gI
theorem LZ {f:Addr} {fd:FuncData} (D:Df K mg "_law_due" yP ["_law_rows"] f fd) (M:MN mg) (DN:bW P w K mg base "_law_breaks" ["_law_rows","_law_at"] 2 (bS K 2 yV)) (xA:bW P w K mg base "_law_open" ["_law_rows","_law_at"] 1 (bS K 2 DJ)):bW P w K mg base "_law_due" ["_law_rows"] 3 (bS K 1 PF):=by
 obtain ⟨PJ,MO,DO,DP,DQ,DR⟩:=DN
 obtain ⟨LY,Hf,xB,xC,xD,xE⟩:=xA
 refine D.ji (jU D.F DM rfl fun bD A outer s H E Ox hr ts q hG=>?_)
 have nd:=DM.nd
 have hu:=bp.fz hr
 have np:∀ {i:Nat},aY ⟨H,[],Ox⟩ i:=ka
 refine ⟨_,(af (cF x8 rfl (cW (by rfl) M.range (VP.vr (aE aA aB (by rfl) M.len gC (ak (aa 0) aw)))) (aW (i:=1) nd rfl (Or.inl rfl) np)
    (ah (aL (cS (aM DR (hr.mono (by decide)) (by rfl) DO DP DQ (ae (aq 0) (ae (aq 1) ai))))
      (ah (aD (VP.vx (VE.vp (aq 1)))))
      ay)))
   (af (aL (kx hu (VP.vr (aM xE (hr.mono (by decide)) (by rfl) xB xC xD (ae (aq 0) (ae (VP.ve (aE aA aB (by rfl) M.len gC (ak (aa 0) aw))) ai)))) (VP.vr (bL ai)))
     (ah (aD (VP.vx (aE aA aB (by rfl) M.len gC (ak (aa 0) aw)))))
     ay)
   (ah (aD (VP.vx gK))))),fun _=>?_⟩
 obtain ⟨rs,rfl,hn,hq⟩:=hG
 have hl:((rs.map ax).length:Int)=((rs.length:Nat):Int):=by rw [b_]
 refine ⟨by omega,by omega,?_⟩
 rw [hl,Eg]
 refine cT (fun i ρ=>i≤rs.length∧∃ b1,ρ=[some (.lst (rs.map ax),false),b1]∧brk [] rs 0=brk (qb (rs.take i)) (rs.drop i) i) ⟨kd _,_,rfl,rfl⟩ ?_ ?_
 · rintro i ρ hi ⟨_,b1,rfl,hb⟩
   rw [IY]
   have hr:rs[i]?=some rs[i]:=j_ hi
   rw [yM hr] at hb
   refine ⟨rfl,rs,i,rs[i],rfl,hr,hn,?_⟩
   cases hm:gS (qb (rs.take i)) (wd rs[i]) with
   | false =>
     have e:brk [] rs 0=some i:=by rw [hb]; show (if _=true then _ else _)=_; rw [hm]; rfl
     rw [e] at hq
     exact hq
   | true =>
     refine ⟨hi,_,rfl,?_⟩
     rw [hb,vA hr]
     show (if _=true then _ else _)=_
     rw [if_pos hm]
 · rintro ρ ⟨_,b1,rfl,hb⟩
   rw [Mq,List.drop_length] at hb
   have Ie:brk [] rs 0=if qb rs=[] then none else some rs.length:=hb
   refine ⟨rfl,rs,rs.length,by rw [hl]; rfl,du _,hn,?_⟩
   rw [Mq]
   by_cases h:qb rs=[]
   · rw [Ie,if_pos h] at hq
     rw [h]
     exact ⟨small (by simp),rfl,rfl,by decide,hq⟩
   · rw [Ie,if_neg h] at hq
     have ne:oS (qb rs)≠[]:=by unfold oS; simpa using h
     obtain ⟨t1,Ys,et⟩:=Rz ne
     have hp:plainT (.lst (oS (qb rs)))=true:=by simp only [plainT]; exact bR (fun _=>rfl) _
     have hd:dep (.lst (oS (qb rs)))≤100:=by have:=cL (f:=fun x:Str=>T.str (fE x)) (n:=0) (fun _=>du _) (qb rs); simp only [dep]; unfold oS; omega
     refine ⟨small (by simp),hp,rfl,hd,?_⟩
     refine rE (c:=!eqT (.lst (oS (qb rs))) (.lst [])) (by rw [et]; rfl) ?_
     show q (.vw (.int ((rs.map ax).length:Int)))
     rw [hl]
     exact hq
end
def il (ys:List Str):List Rw:=[.df (ys.getD 5 "") [],.give (.nu 0),.Ld (.nm (ys.getD 0 "")),.Ew (.nu 1),.OS,.fin,.put "a" (.nu 1)]
def yX (ts:List T) (q:Rt→Prop):Prop:=∃ (rs:List Rw) (c:Int) (ys:List Str),ts=[.lst (rs.map ax),.int c,.lst (ys.map .str)]∧ys.length=6∧rs.length < 60 ∧
 ∀ MQ:List Rw,MQ.length≤60→(∀ r∈MQ,r∈rs∨r∈il ys)→q (.fr (.lst (MQ.map ax)))
theorem DS {ys:List Str} {k:Nat} (h:k < ys.length):ju (ys.map T.str) (k:Int)=some (.str (ys.getD k "")):=au (by rw [k9,List.getD,j_ h]; rfl)
theorem AE {α:Type} (f:α→T) (l:List α) (k:Nat):cm (l.map f) (some (k:Int)) none=(l.drop k).map f:=by
 by_cases h:k≤l.length
 · exact dR.pJ f l k h
 · unfold cm
   rw [b_,HT.km,HT.iH,Nat.min_eq_right (by omega),Nat.sub_self,List.take_zero,RK (by omega)]
   rfl
section
variable {P:Program} {w:World} {K:PySem.W.Frag} {mg:Str→Option Value} {base:Heap}
abbrev DT:List Str:=["_law_rows","_law_cell","_law_words_here","_law_at","_law_some","_law_one","_law_other","_law_held"]
theorem rL:aI DT ["_law_rows","_law_cell","_law_words_here"] (aj kZ):=L2.gI
theorem AF {f:Addr} {fd:FuncData} (D:Df K mg "_law_turned" kZ ["_law_rows","_law_cell","_law_words_here"] f fd) (M:MN mg):bW P w K mg base "_law_turned" ["_law_rows","_law_cell","_law_words_here"] 1 (bS K 3 yX):=by
 refine D.ji (jU D.F rL rfl fun bD A outer s H E Ox hr ts q hG=>?_)
 have nd:=rL.nd
 have hu:=bp.fz hr
 have np:∀ {i:Nat},aY ⟨H,[],Ox⟩ i:=ka
 refine ⟨_,(af (aP (i:=3) nd rfl (Or.inl rfl) (VP.vx (aT (VP.vr (bb (aa 1) (VP.vr ag))) (VP.vr (bt (VP.vr (aE aA aB (by rfl) M.len gC (ak (aa 0) aw))) (VP.vr ag))))) np)
   (af (aP (i:=4) nd rfl (Or.inl rfl) (VP.vx (bL (ae (VP.ve (aX (ae (VP.ve ao) (ae (VP.ve (aQ (aa 2) (VP.vr ag))) (ae (VP.ve (aX ai)) ai))))) (ae (VP.ve (aX (ae (VP.ve ao) (ae (VP.ve ag) ai)))) (ae (VP.ve (aX (ae (VP.ve ao) (ae (VP.ve (aQ (aa 2) (VP.vr ag))) ai)))) (ae (VP.ve (aX (ae (VP.ve ao) (ae (VP.ve ag) ai)))) (ae (VP.ve (aX (ae (VP.ve ao) ai))) (ae (VP.ve (aX (ae (VP.ve ao) ai))) (ae (VP.ve (aX (ae (VP.ve ao) (ae (VP.ve ao) (ae (VP.ve ag) ai))))) ai))))))))) np)
   (af (aL (VW.vc (iM (br hu (VP.vr (aT (aa 1) (VP.vr ag))) (VP.vr ag)) (fO (br hu (aa 0) (VP.vr (bL ai))))))
     (ah (aD (VP.vx (bt (VP.vr (bt (VP.vr (b5 (aa 0) dU (ck (aa 3)))) (VP.vr (bL (ae (VP.ve (aQ (aa 4) (VP.vr (aT (VP.vr (bb (aa 1) (VP.vr ag))) (VP.vr ag))))) ai))))) (VP.vr (b5 (aa 0) (ck (aa 3)) dU))))))
     ay)
   (af (aL (br hu (VP.vr (aT (aa 1) (VP.vr ag))) (VP.vr ag))
     (ah (aD (VP.vx (bt (VP.vr (b5 (aa 0) dU (ck (aa 3)))) (VP.vr (b5 (aa 0) (ck (VP.vr (bt (aa 3) (VP.vr ag)))) dU))))))
     ay)
   (af (aP (i:=5) nd rfl (Or.inl rfl) (VP.vx (aT (VP.vr (bb (aa 1) (VP.vr ag))) (VP.vr (aE aA aB (by rfl) M.len gC (ak (aa 0) aw))))) np)
   (af (aP (i:=6) nd rfl (Or.inl rfl) (VP.vx (aT (aa 3) (VP.vr (aE aA aB (by rfl) M.len gC (ak (aa 0) aw))))) np)
   (af (dC (i:=0) nd rfl (Or.inl rfl) (VP.vx (eE d9 gM (by rfl) M.list sG (ak (aa 0) aw))) np)
   (af (aP (i:=7) nd rfl (Or.inl rfl) (VP.vx (aQ (aa 0) (aa 5))) np)
   (af (n9 0 (VP.ve (aQ (aa 0) (aa 6))) (aa 5))
   (af (n9 0 (aq 7) (aa 6))
   (ah (aD (gN 0 np))))))))))))),fun _=>?_⟩
 obtain ⟨rs,c,ys,rfl,hy,hn,hq⟩:=hG
 have hl:((rs.map ax).length:Int)=(rs.length:Int):=by rw [b_]
 have a0:0≤c / 24 % ((rs.length:Int)+1):=k_ _ (by omega)
 have a1:c / 24 % ((rs.length:Int)+1) < (rs.length:Int)+1:=mB _ (by omega)
 obtain ⟨a,ea⟩:=Ef a0
 have ha:a≤rs.length:=by omega
 have c1:=yU ax rs a ha
 have c2:=dR.pJ ax rs a ha
 have s0:0≤c / 3 % 7:=k_ _ (by decide)
 have s1:c / 3 % 7 < 7:=mB _ (by decide)
 obtain ⟨m,em⟩:=Ef s0
 have hm:m < 7:=by omega
 have hp:plainT (.lst (rs.map ax))=true:=by simp only [plainT]; exact bR oP rs
 have hd:dep (.lst (rs.map ax))≤100:=by have:=cL (f:=ax) (n:=2) uO rs; simp only [dep]; omega
 refine ⟨⟨by decide,by decide⟩,(by show (0:Int) < ((rs.map ax).length:Int)+1; omega),?_⟩
 rw [hl,ea]
 refine ⟨_,DS (k:=5) (by omega),small (by simp),small (by simp),small (by simp),_,DS (k:=0) (by omega),small (by simp),small (by simp),small (by simp),small (by simp),small (by simp),small (by simp),?_⟩
 have ins:∀ (b:Bool),b=true∨b=false→q (.fr (.lst ((rs.take a).map ax ++ [ax ((il ys).getD m .skip)] ++ (rs.drop a).map ax))):=fun _ _=>by
  have:=hq (rs.take a ++ [(il ys).getD m .skip] ++ rs.drop a) (by simp; omega) (fun r hr=>by
   rcases jA.mp hr with hr | hr
   · rcases jA.mp hr with hr | hr
     · exact .inl (List.mem_of_mem_take hr)
     · rw [x6.mp hr]
       refine .inr ?_
       have Rn:m < (il ys).length:=hm
       rw [List.getD,j_ Rn]
       exact A9 Rn
   · exact .inl (M8 hr))
  rw [pX,pX] at this
  exact this
 have sat:ju ((il ys).map ax) (m:Int)=some (ax ((il ys).getD m .skip)):=au (by have Rn:m < (il ys).length:=hm; rw [k9,List.getD,j_ Rn]; rfl)
 have l1:((rs.take a).map ax).length≤60:=by simp; omega
 have l2:((rs.drop a).map ax).length≤60:=by simp; omega
 have first:∃ t,ju ((il ys).map ax) (c / 3 % 7)=some t∧1≤sizeLine∧((rs.take a).map ax).length+1≤sizeLine∧((rs.take a).map ax ++ [t]).length+((rs.drop a).map ax).length≤sizeLine∧q (.fr (.lst ((rs.take a).map ax ++ [t] ++ (rs.drop a).map ax))) :=
  ⟨_,by rw [em]; exact sat,small (by simp),small (by omega),small (by rw [mf]; simp; omega),ins true (.inl rfl)⟩
 refine ⟨by show (0:Int) < 3; decide,?_⟩
 refine bP (fun h=>?_) (fun h=>?_)
 · obtain ⟨t,h1,h2,h3,h4,h5⟩:=first
   refine ⟨⟨by decide,by decide⟩,(by show (0:Int) < 7; decide),t,h1,h2,?_,?_,?_⟩
   · show (cm (rs.map ax) none (some (a:Int))).length+1≤sizeLine
     rw [c1]; exact h3
   · show (cm (rs.map ax) none (some (a:Int)) ++ [t]).length+(cm (rs.map ax) (some (a:Int)) none).length≤sizeLine
     rw [c1,c2]; exact h4
   · show q (.fr (.lst (cm (rs.map ax) none (some (a:Int)) ++ [t] ++ cm (rs.map ax) (some (a:Int)) none)))
     rw [c1,c2]; exact h5
 · refine ⟨small (by simp),hp,rfl,hd,?_⟩
   by_cases hr:rs=[]
   · refine rE (c:=eqT (.lst (rs.map ax)) (.lst [])) (by rw [hr]; rfl) ?_
     obtain ⟨t,h1,h2,h3,h4,h5⟩:=first
     refine ⟨⟨by decide,by decide⟩,(by show (0:Int) < 7; decide),t,h1,h2,?_,?_,?_⟩
     · show (cm (rs.map ax) none (some (a:Int))).length+1≤sizeLine
       rw [c1]; exact h3
     · show (cm (rs.map ax) none (some (a:Int)) ++ [t]).length+(cm (rs.map ax) (some (a:Int)) none).length≤sizeLine
       rw [c1,c2]; exact h4
     · show q (.fr (.lst (cm (rs.map ax) none (some (a:Int)) ++ [t] ++ cm (rs.map ax) (some (a:Int)) none)))
       rw [c1,c2]; exact h5
   · refine dH (c:=eqT (.lst (rs.map ax)) (.lst [])) (by obtain ⟨r0,ZQ,e⟩:=Rz hr; rw [e]; rfl) ?_
     refine ⟨by show (0:Int) < 3; decide,?_⟩
     refine bP (fun h1=>?_) (fun h1=>?_)
     · have c3:=AE ax rs (a+1)
       refine ⟨?_,?_⟩
       · show (cm (rs.map ax) none (some (a:Int))).length+(cm (rs.map ax) (some ((a:Int)+1)) none).length≤sizeLine
         rw [c1,show ((a:Int)+1)=((a+1:Nat):Int) from rfl,c3]
         exact small (by simp; omega)
       · show q (.fr (.lst (cm (rs.map ax) none (some (a:Int)) ++ cm (rs.map ax) (some ((a:Int)+1)) none)))
         rw [c1,show ((a:Int)+1)=((a+1:Nat):Int) from rfl,c3,← pX]
         refine hq _ (by simp; omega) fun r hr=>?_
         rcases jA.mp hr with hr | hr
         · exact .inl (List.mem_of_mem_take hr)
         · exact .inl (M8 hr)
     · have hlen:0 < rs.length:=List.length_pos_iff.mpr hr
       have b0:0≤c / 7 % (rs.length:Int):=k_ _ (by omega)
       have b1:c / 7 % (rs.length:Int) < (rs.length:Int):=mB _ (by omega)
       obtain ⟨o1,Yt⟩:=Ef b0
       have d0:0≤(a:Int) % (rs.length:Int):=k_ _ (by omega)
       have d1:(a:Int) % (rs.length:Int) < (rs.length:Int):=mB _ (by omega)
       obtain ⟨o2,Tc⟩:=Ef d0
       have KL:o1 < rs.length:=by omega
       have B7:o2 < rs.length:=by omega
       refine ⟨⟨by decide,by decide⟩,(by show (0:Int) < ((rs.map ax).length:Int); omega),(by show (0:Int) < ((rs.map ax).length:Int); omega),?_⟩
       rw [hl,Yt,Tc]
       have x1:ju (rs.map ax) (o1:Int)=some (ax rs[o1]):=au (by rw [k9,j_ KL]; rfl)
       have x2:ju (rs.map ax) (o2:Int)=some (ax rs[o2]):=au (by rw [k9,j_ B7]; rfl)
       have MK:∀ (n o:Nat),o < n→vK n (o:Int)=some o:=fun n o h=>by unfold vK; rw [if_pos (by omega),if_pos (by omega)]; simp
       refine ⟨_,x1,_,x2,o1,MK _ _ (by rw [b_]; exact KL),o2,MK _ _ (by rw [Hu,b_]; exact B7),?_⟩
       have e:((rs.map ax).set o1 (ax rs[o2])).set o2 (ax rs[o1])=((rs.set o1 rs[o2]).set o2 rs[o1]).map ax:=by rw [List.map_set,List.map_set]
       show q (.fr (.lst (((rs.map ax).set o1 (ax rs[o2])).set o2 (ax rs[o1]))))
       rw [e]
       refine hq _ (by simp; omega) fun r hr=>?_
       rcases IP hr with hr | hr
       · rcases IP hr with hr | hr
         · exact .inl hr
         · rw [hr]; exact .inl (A9 _)
       · rw [hr]; exact .inl (A9 _)
end
end pM
namespace VT
open PySem PySem.Spec PyProof.Rows L2
def yY:V→List V→Hp→VK→Prop:=fun x vs H Q=>∃ (l:Addr) (xs:List V) (k:Nat) (y:V),x = .ref l∧vs=[.int (k:Int),y]∧k≤1000∧H l=some (.lst xs)∧xs.length < sizeLine∧Q .bh (upd H l (.lst (xs.take k ++ [y] ++ xs.drop k)))
theorem rM:∀ {xs:List V} {us:List Value} (k:Nat),Vals xs us→Vals (xs.take k) (us.take k)
 | _,_,0,_=>.nil
 | _,_,_+1,.nil=>.nil
 | _,_,k+1,.cons r t=>.cons r (rM k t)
theorem rN:∀ {xs:List V} {us:List Value} (k:Nat),Vals xs us→Vals (xs.drop k) (us.drop k)
 | _,_,0,h=>h
 | _,_,_+1,.nil=>.nil
 | _,_,k+1,.cons _ t=>rN k t
theorem AG {X:Cx}:Sl X "list.insert" yY:=by
 intro pins s σ H x vs v us Q I rx rv h
 obtain ⟨l,xs,k,y,rfl,rfl,hk,hH,hz,q⟩:=h
 cases rx
 obtain ⟨u1,u2,rfl,r1,r2⟩:=vals2 rv
 obtain ⟨t,e1⟩:=(show ∃ t,u1=Value.int (k:Int) t from r1)
 obtain ⟨x,hx⟩:∃ x:Int,x=(k:Int):=⟨_,rfl⟩
 rw [← hx] at e1
 subst e1
 obtain ⟨z,aK,n,r,hl,e⟩:=I.JW hH
 have OD:Builtin.List.listFitsIndex x=true:=by
  unfold Builtin.List.listFitsIndex
  rw [iC,decide_eq_true_eq,decide_eq_true_eq]
  exact ⟨by omega,by omega⟩
 have Yu:¬(!Builtin.List.listFitsIndex x)=true:=by rw [OD]; decide
 have pY:aK.toArray.size≤sizeLine:=by rw [gB]; omega
 have mm:=PySem.AutoSeq1.list_insert_list_int_val_1 l aK.toArray n x t u2 Yu pY
 refine call_meets F.slot_list_insert ⟨_,e,rfl⟩ F.entry_list_insert (F.args_list_insert_3 _ _ _) mm ⟨e,?_⟩
 refine ⟨.bh,_,I.JV (its':=aK.take k ++ [u2] ++ aK.drop k) hH e ?_ (((rM k r).append (.cons r2 .nil)).append (rN k r)) ?_,rfl,q⟩
 · have ek:(if x < 0 then (x+(aK.toArray.size:Int)).toNat else min x.toNat aK.toArray.size)=min k aK.length:=by rw [if_neg (by omega),hx,Eg,gB]
   show (aK.toArray.extract 0 (if x < 0 then (x+(aK.toArray.size:Int)).toNat else min x.toNat aK.toArray.size)).push u2 ++ aK.toArray.extract (if x < 0 then (x+(aK.toArray.size:Int)).toNat else min x.toNat aK.toArray.size)=_
   rw [ek]
   apply Array.ext'
   simp only [Array.toList_append,Array.toList_push,Array.toList_extract,List.extract_eq_take_drop,List.drop_zero,Nat.sub_zero]
   by_cases FN:k≤aK.length
   · rw [Nat.min_eq_left FN]
     simp
     exact MW (by rw [IV]; omega)
   · rw [Nat.min_eq_right (by omega),MW (du _),MW (by omega:aK.length≤k),RK (du _),RK (by omega:aK.length≤k)]
     simp
 · rw [mf,mf,EH,IV,MY]
   omega
def yZ (ts us:List T) (q:List T→T→Prop):Prop:=match us with
 | [.int i,t]=>0≤i∧i≤1000∧ts.length < sizeLine∧q (ts.take i.toNat ++ [t] ++ ts.drop i.toNat) .bh
 | _=>False
theorem xF {K:PySem.W.Frag}:Mz K yY yZ:=by
 intro H A l xs ts us vs q Q hl hH h1 h2 hp k
 unfold yZ at hp
 split at hp
 · rename_i i t
   obtain ⟨h0,hi,hz,hq⟩:=hp
   simp only [aG,At] at h2
   obtain ⟨v1,r1,rfl,rfl,v2,r2,rfl,a2,rfl⟩:=h2
   exact ⟨l,xs,i.toNat,v2,rfl,by rw [Int.toNat_of_nonneg h0],by omega,hH,by rw [h1.length]; exact hz,k _ _ hq _ _ (((h1.take i.toNat).append (aG.cons a2 aG.nil)).append (h1.drop i.toNat)) lp⟩
 · exact hp.elim
end VT
namespace pM
open PySem L2 VT Gen ym
open fH (ir iV)
def Hg (ts:List T) (q:Rt→Prop):Prop:=∃ ns:List Int,ts=[.lst (ns.map .int)]∧ns.length≤63∧q (.vw (.bl true))
def Gd (rs:List Rw):Prop:=rs.length≤60∧∀ r∈rs,ir (ax r)
def PK:FS:=fun d ρ=>∃ (ns:List Int) (ys:List Str) (b3:Option (T×Bool)) (rs:List Rw),ρ=[some (.lst (ns.map .int),false),some (.lst (ys.map .str),false),some (.lst (rs.map ax),true),b3,none,none,none,none]∧Gd rs∧∀ ρ,d.rt ρ (.vw (.bl true))
section
variable {P:Program} {w:World} {K:PySem.W.Frag} {mg:Str→Option Value} {base:Heap}
abbrev PL:List Str:=["_law_script","_law_words_here","_law_rows","_law_k","_law_held","_law_due_here","_law_word","_law_told"]
theorem DU:aI PL ["_law_script"] (aj jI):=L2.gI
theorem L0 {f:Addr} {fd:FuncData} (D:Df K mg "law" jI ["_law_script"] f fd) (M:MN mg) (AH:bW P w K mg base "_law_cell_at" ["_law_script","_law_k"] 1 (bS K 2 dR.IB)) (Hh:bW P w K mg base "_law_words" ["_law_cell","_law_many"] 1 (bS K 2 dR.Du)) (L1:bW P w K mg base "_law_plan" ["_law_cell","_law_words_here"] 1 (bS K 2 dR.II)) (AI:bW P w K mg base "_law_program" ["_law_cells","_law_words_here","_law_plan_here"] 5 (bS K 3 dR.vz)) (DV:bW P w K mg base "_law_turned" ["_law_rows","_law_cell","_law_words_here"] 1 (bS K 3 yX)) (PM:bW P w K mg base "_law_due" ["_law_rows"] 3 (bS K 1 PF)) (AJ:bW P w K mg base "_law_outcome" ["_law_rows"] 8 (bS K 1 IA.Pk)):cD P w K mg base iK 9 f fd ["_law_script"] (bS K 1 Hg):=by
 obtain ⟨MR,L3,gx,gy,gz,gA⟩:=AH
 obtain ⟨Ro,PN,m_words,Hi,Hj,Hk⟩:=Hh
 obtain ⟨UG,Rp,L4,L5,L6,L7⟩:=L1
 obtain ⟨MS,L8,AK,AL,AN,AO⟩:=AI
 obtain ⟨PQ,MT,DW,DY,DZ,D_⟩:=DV
 obtain ⟨Wd,UH,PR,PU,PV,PX⟩:=PM
 obtain ⟨MU,L9,AQ,AR,AS,AU⟩:=AJ
 refine jU D.F DU rfl fun bD A outer s H E Ox hr ts q hG=>?_
 have nd:=DU.nd
 have hu:=bp.fz hr
 have np:∀ {i:Nat},aY ⟨H,[],Ox⟩ i:=ka
 have Uz:∀ {is:List Nat},∀ i∈is,aY ⟨H,[],Ox⟩ i:=fun i _=>ka
 refine ⟨_,(af (aP (i:=1) nd rfl (Or.inl rfl) (VP.vx (aM Hk (hr.mono (by decide)) (by rfl) m_words Hi Hj (ae (VP.ve (aM gA (hr.mono (by decide)) (by rfl) gx gy gz (ae (aq 0) (ae (VP.ve ag) ai)))) (ae (VP.ve ag) ai)))) np)
   (af (dC (i:=2) nd rfl (Or.inl rfl) (VP.vx (aM AO (hr.mono (by decide)) (by rfl) AK AL AN (ae (VP.ve (b5 (aa 0) (ck (VP.vr ag)) (ck (VP.vr ag)))) (ae (aq 1) (ae (VP.ve (aM L7 (hr.mono (by decide)) (by rfl) L4 L5 L6 (ae (VP.ve (aM gA (hr.mono (by decide)) (by rfl) gx gy gz (ae (aq 0) (ae (VP.ve ag) ai)))) (ae (aq 1) ai)))) ai))))) np)
   (af (cF x8 rfl (cW (by rfl) M.range (VP.vr (bt (VP.vr ag) (VP.vr (aT (VP.vr (bb (VP.vr (aM gA (hr.mono (by decide)) (by rfl) gx gy gz (ae (aq 0) (ae (VP.ve ag) ai)))) (VP.vr ag))) (VP.vr ag)))))) (aW (i:=3) nd rfl (Or.inl rfl) np)
     (ah (aL (iP (VP.vr (aE aA aB (by rfl) M.len gC (ak (aa 2) aw))) (VP.vr ag))
       (ah (dC (i:=2) nd rfl (Or.inl rfl) (VP.vx (eS D_ (hr.mono (by decide)) (by rfl) DW DY DZ (ak (aa 2) (ak (VP.vr (aT (VP.vr (aM gA (hr.mono (by decide)) (by rfl) gx gy gz (ae (aq 0) (ae (VP.ve (bt (VP.vr ag) (aa 3))) ai)))) (VP.vr (jR (VP.vr ag) (VP.vr ag))))) (ak (aa 1) aw))))) np))
       ay)))
   (af (aL (VW.vc (c9 (br hu (VP.vr (aT (VP.vr (aM gA (hr.mono (by decide)) (by rfl) gx gy gz (ae (aq 0) (ae (VP.ve ag) ai)))) (VP.vr ag))) (VP.vr ag)) (cy (uF yc yc (VP.vr ag) (VP.vr (aE aA aB (by rfl) M.len gC (ak (aa 2) aw))) (VP.vr ag)))))
     (ah (a_ (dy 2 PySem.F.slot_list_insert PySem.F.type_list_insert AG xF (ae (VP.ve ag) (ae (VP.ve (aX (ae (VP.ve ao) (ae (VP.ve (aQ (aa 1) (VP.vr ag))) (ae (VP.ve ao) (ae (VP.ve (aX ai)) ai)))))) ai)))))
     ay)
   (ky.weak (u:=(PK)) (yo [2] (af (aP (i:=4) nd rfl (Or.inl rfl) (VP.vx (eE d9 gM (by rfl) M.list sG (ak (aa 2) aw))) np)
   (af (aP (i:=5) nd rfl (Or.inl rfl) (VP.vx (aM PX (hr.mono (by decide)) (by rfl) PR PU PV (ae (aq 4) ai))) np)
   (af (B4 (VP.ve (aM AU (hr.mono (by decide)) (by rfl) AQ AR AS (ae (aq 2) ai))) (gO (n:=2) rfl (bx (aW (i:=6) nd rfl (Or.inl rfl) np) (bx (aW (i:=7) nd rfl (Or.inl rfl) np) eA))))
   (af (aL (kx hu (aa 2) (aa 4))
     (ah (aD (VP.vx jC)))
     ay)
   (af (aL (B_ (aa 5) (VP.vr gK))
     (ah (aD (VP.vx (lr (ik hu (aa 6) (VP.vr ao)) (jP (ik hu (aa 7) (aa 5)))))))
     ay)
   (ah (aD (VP.vx (BS (ik hu (aa 6) (VP.vr ao)) (jP (lr (ik hu (aa 6) (VP.vr ao)) (jP (ik hu (aa 7) (aa 4)))))))))))))) Uz) ?w1))))),fun _=>?main⟩
 case w1 =>
  rintro d ρ ⟨ns,ys,b3,rs,rfl,⟨hn,hg⟩,fin⟩
  have hp:plainT (.lst (rs.map ax))=true:=by simp only [plainT]; exact bR oP rs
  have hd:dep (.lst (rs.map ax))≤100:=by have:=cL (f:=ax) (n:=2) uO rs; simp only [dep]; omega
  have hx:=ku _ hp
  refine ⟨rfl,rs,rfl,by omega,rfl,rs,rfl,hn,hg,?_⟩
  unfold IA.As
  cases hb:brk [] rs 0 with
  | some i =>
    refine ⟨rfl,rfl,hp,hp,hd,?_⟩
    refine dH (c:=!eqT (.lst (rs.map ax)) (.lst (rs.map ax))) (by rw [hx]; rfl) ?_
    have e1:decide ((i:Int)=(i:Int))=true:=decide_eq_true rfl
    show d.rt _ (.vw (.bl (decide ((i:Int)=(i:Int)))))
    rw [e1]
    exact fin _
  | none =>
    cases hc:i8 rs with
    | some i =>
      refine ⟨rfl,rfl,hp,hp,hd,?_⟩
      refine dH (c:=!eqT (.lst (rs.map ax)) (.lst (rs.map ax))) (by rw [hx]; rfl) ?_
      exact fin _
    | none =>
      refine ⟨rfl,rfl,hp,hp,hd,?_⟩
      refine dH (c:=!eqT (.lst (rs.map ax)) (.lst (rs.map ax))) (by rw [hx]; rfl) ?_
      refine ⟨hp,hp,hd,?_⟩
      show d.rt _ (.vw (.bl (eqT (.lst (rs.map ax)) (.lst (rs.map ax)))))
      rw [hx]
      exact fin _
 case main =>
  obtain ⟨ns,rfl,ZR,hq⟩:=hG
  have xu:(cH (ns.getD 0 0) 6).length=6:=wI _ _
  have Rq:∀ y∈cH (ns.getD 0 0) 6,cj y=true:=wV
  have MA:(cH (ns.getD 0 0) 6).Nodup:=uY (by decide)
  refine ⟨rfl,ns,0,rfl,rfl,_,6,rfl,by decide,by decide,?_⟩
  generalize cH (ns.getD 0 0) 6=ys at xu Rq MA ⊢
  obtain ⟨ms,UC,TX⟩:=dR.yT T.int ns (some 5) (some 45)
  refine ⟨rfl,ns,1,rfl,rfl,_,ys,rfl,xu,fun pl fM h1 h3=>?_⟩
  refine ⟨rfl,ms,ys,pl,by rw [← UC]; rfl,by omega,⟨xu,fun y hy=>by have:=fH.kP (Rq y hy); omega,h3,fun p hp=>?_⟩,h1,fun rs ll hlen=>?_⟩
  · have:=(uZ xu fM p.1 p.2 hp).2
    omega
  have jM:∀ r∈rs,ir (ax r):=fun r hr=>iV Rq (Lv xu MA fM ll r hr)
  have y0:ys.getD 0 ""∈ys:=by rw [List.getD,j_ (by omega:0 < ys.length)]; exact A9 _
  have y5:ys.getD 5 ""∈ys:=by rw [List.getD,j_ (by omega:5 < ys.length)]; exact A9 _
  have PY:∀ y∈("a" : Str) :: "nobodyno" :: ys,cj y=true:=fun y hy=>by
   rcases dS.mp hy with rfl | hy
   · decide +kernel
   · rcases dS.mp hy with rfl | hy
     · decide +kernel
     · exact Rq y hy
  have h7:∀ r∈il ys,ir (ax r):=fun r hr=>by
   refine iV PY ?_
   unfold il at hr
   simp only [dS,fD,or_false] at hr
   rcases hr with rfl | rfl | rfl | rfl | rfl | rfl | rfl
   · exact ⟨jc _ (jc _ y5),by simp,by simp,by simp⟩
   · exact ⟨by decide,by decide⟩
   · exact jc _ (jc _ y0)
   · exact ⟨by decide,by decide⟩
   · trivial
   · trivial
   · exact ⟨by simp,by decide,by decide⟩
  have PZ:ir (ax (.call (ys.getD 0 "") "nobodyno" [])):=iV PY (show zW _ (Rw.call _ _ _) from ⟨jc _ (jc _ y0),by simp,by simp,by simp⟩)
  have fin:∀ ρ':En,(fun (_:En) (r:Rt)=>q r) ρ' (.vw (.bl true)):=fun _=>hq
  refine ⟨rfl,ns,1,rfl,⟨by decide,by decide⟩,(by show (0:Int) < 3; decide),?_⟩
  have m0:0≤ns.getD 1 0 / 3 % 3:=k_ _ (by decide)
  have m1:ns.getD 1 0 / 3 % 3 < 3:=mB _ (by decide)
  generalize ns.getD 1 0 / 3 % 3=m at m0 m1 ⊢
  refine ⟨by omega,by omega,?_⟩
  refine cT (fun i ρ=>∃ (b3:Option (T×Bool)) (rs:List Rw),ρ=[some (.lst (ns.map .int),false),some (.lst (ys.map .str),false),some (.lst (rs.map ax),true),b3,none,none,none,none]∧Gd rs) ⟨none,rs,rfl,hlen,jM⟩ ?_ ?_
  · rintro i ρ hi ⟨b3,tX,rfl,ID,MV⟩
    rw [IY]
    have hl:((tX.map ax).length:Int)=(tX.length:Int):=by rw [b_]
    refine bP (fun h=>?_) (fun h=>⟨_,tX,rfl,ID,MV⟩)
    refine ⟨rfl,ns,2+i,rfl,by decide,by decide,rfl,tX,_,ys,rfl,xu,by omega,fun MQ Nf hm=>⟨kH CD MQ,_,MQ,rfl,Nf,fun r hr=>(hm r hr).elim (MV r) (h7 r)⟩⟩
  · rintro ρ ⟨b3,tX,rfl,ID,MV⟩
    have hl:((tX.map ax).length:Int)=(tX.length:Int):=by rw [b_]
    refine ⟨rfl,ns,0,rfl,(by show (0:Int) < 2; decide),?_⟩
    have skip:PK { nx:=fun _=>q (.vw .bh),rt:=fun _ r=>q r } [some (.lst (ns.map .int),false),some (.lst (ys.map .str),false),some (.lst (tX.map ax),true),b3,none,none,none,none]:=⟨ns,ys,b3,tX,rfl,⟨ID,MV⟩,fin⟩
    refine bP (fun h=>?_) (fun h=>skip)
    refine fH.oR (c:=decide ((0:Int) < ((tX.map ax).length:Int))) (fun h1=>?_) (fun h1=>skip)
    have KL:0 < tX.length:=by have:=of_decide_eq_true h1; omega
    refine bP (fun h2=>?_) (fun h2=>skip)
    have B7:tX.length < 60:=by omega
    have e3:(tX.map ax).take 1 ++ [ax (.call (ys.getD 0 "") "nobodyno" [])] ++ (tX.map ax).drop 1=(tX.take 1 ++ [Rw.call (ys.getD 0 "") "nobodyno" []] ++ tX.drop 1).map ax:=by rw [pX,pX,List.map_take,List.map_drop]; rfl
    refine ⟨_,DS (k:=0) (by omega),small (by simp),small (by simp),by decide,by decide,small (by omega),ns,ys,b3,tX.take 1 ++ [Rw.call (ys.getD 0 "") "nobodyno" []] ++ tX.drop 1,?_,⟨by simp; omega,fun r hr=>?_⟩,fin⟩
    · rw [← e3]; rfl
    · rcases jA.mp hr with hr | hr
      · rcases jA.mp hr with hr | hr
        · exact MV r (List.mem_of_mem_take hr)
        · rw [x6.mp hr]; exact PZ
      · exact MV r (M8 hr)
end
end pM
namespace EX
open PySem PySem.Spec PySem.Calls PyProof.Rows L2
open PySem.W (findIn typeIn clsIn subIn mroIn specialIn takesIn kitOne)
def CK:Value→Bool
 | .str _ _=>true
 | _=>false
def UI (K:PySem.W.Frag) (a:Addr):Bool:=match K.lookup a with
 | some ⟨_,_,.cls cd,_⟩=>(match K.lookup cd.ns with
   | some ⟨_,_,.dict es _,_⟩=>es.toList.all (fun e=>CK e.key) && (nsFind es "__init__").isNone
   | _=>false)
 | _=>false
def Rr (K:PySem.W.Frag) (C:Addr) (tl:List Addr):Bool:=match K.lookup C with
 | some ⟨c,_,.cls cd,sl⟩=>c == .type "type" && (cd.mro == (Value.ref C :: (tl.map Value.ref ++ EA)) && (cd.hasDict && (!cd.hasDel && ((match sl.toList with
   | [_,_,_,_,some v,_]=>v == .builtin "ValueError.__new__"
   | _=>false) && tl.all (UI K)))))
 | _=>false
theorem P4 {K:PySem.W.Frag} {a:Addr} (h:UI K a=true):∃ c dd cd sl o es ep,K.lookup a=some ⟨c,dd,.cls cd,sl⟩∧K.lookup cd.ns=some o∧o.data = .dict es ep∧StrKeys es∧nsFind es "__init__" = none:=by
 unfold UI at h
 split at h
 · rename_i c dd cd sl h1
   split at h
   · rename_i c2 d2 es ep ye h2
     rw [iC] at h
     refine ⟨c,dd,cd,sl,_,es,ep,h1,h2,rfl,fun e he=>?_,Option.isNone_iff_eq_none.mp h.2⟩
     have:=y8.mp h.1 e (by simpa using he)
     cases q:e.key with
     | str n t=>exact ⟨n,t,rfl⟩
     | _=>rw [q] at this; cases this
   · cases h
 · cases h
theorem IL {K:PySem.W.Frag} {C:Addr} {tl:List Addr} (h:Rr K C tl=true):XC K C tl:=by
 unfold Rr at h
 split at h
 · rename_i c dd cd sl h1
   simp only [iC] at h
   obtain ⟨e1,e2,e3,e4,e5,e6⟩:=h
   refine ⟨?_,fun a ha=>P4 (y8.mp e6 a ha)⟩
   obtain ⟨nm,bs,mro,ns,q,hd,sn,sub,ab,col,P5⟩:=cd
   have e1:=beq_iff_eq.mp e1
   have e2:=beq_iff_eq.mp e2
   simp only at e2 e3 e4
   subst e1 e2 e3
   have e4:P5=false:=by cases P5 <;> simp_all
   subst e4
   obtain ⟨l⟩:=sl
   match l,e5 with
   | [k0,k1,k2,k3,some v,k5],e5 =>
     have e5:=beq_iff_eq.mp e5
     subst e5
     exact ⟨nm,q,ns,bs,sn,sub,ab,col,dd,k0,k1,k2,k3,k5,h1⟩
 · cases h
def UJ (K:PySem.W.Frag) (C:Addr):Bool:=findIn K (.ref C) "__getattribute__" == some (some (.builtin "BaseException.__getattribute__")) && (findIn K (.ref C) "__getattr__" == some none && (findIn K (.ref C) "__setattr__" == some (some (.builtin "object.__setattr__")) &&
 (findIn K (.ref C) "place" == some none && (findIn K (.ref C) "__class__" == some (some (.builtin "object.__class__")) && (subIn K (.ref C) (.type "BaseException") == some true && (mroIn K C (.type "object") == some true &&
 (specialIn K (.builtin "object.__class__") "__get__" == some (some (.builtin "getset_descriptor.__get__")) && takesIn K (.builtin "object.__class__") == some true)))))))
theorem P6 {K:PySem.W.Frag} {C:Addr} (h:UJ K C=true):XF K C:=by
 unfold UJ at h
 simp only [iC,beq_iff_eq] at h
 obtain ⟨h1,h2,h3,h4,h5,h6,h7,h8,h9⟩:=h
 exact ⟨h1,h2,h3,h4,h5,h6,h7,h8,h9⟩
def Yv:PySem.W.CFound→Option Value
 | .val v=>some v
 | _=>none
def UK (K:PySem.W.Frag) (S:Addr):Bool:=specialIn K (.ref S) "__getattribute__" == some (some (.builtin "type.__getattribute__")) && (PySem.W.readsIn K S (.type "type") && ((PySem.W.findCls K (.ref S) (.type "type") "__init__").bind Yv == some (.builtin "ValueError.__init__")))
theorem P7 {K:PySem.W.Frag} {S:Addr} (h:UK K S=true):XS K S:=by
 unfold UK at h
 simp only [iC,beq_iff_eq] at h
 obtain ⟨h1,h2,h3⟩:=h
 refine ⟨h1,h2,?_⟩
 cases q:PySem.W.findCls K (.ref S) (.type "type") "__init__" with
 | none=>rw [q] at h3; cases h3
 | some r =>
   rw [q] at h3
   cases r with
   | val v=>rw [show v=Value.builtin "ValueError.__init__" from Option.some.inj h3]
   | get a b c d=>cases h3
def We (K:PySem.W.Frag) (cl:List Addr) (S:Addr):Bool:=cl.all fun C=>Rr K C [S] && (UJ K C && (kitOne K (.ref C) (.type "ValueError") == some true && cl.all fun D=>kitOne K (.ref C) (.ref D) == some (decide (C=D))))
theorem pN {K:PySem.W.Frag} {cl:List Addr} {S:Addr} (h:We K cl S=true):(∀ C∈cl,∀ D∈cl,kitOne K (.ref C) (.ref D)=some (decide (C=D)))∧(∀ C∈cl,kitOne K (.ref C) (.type "ValueError")=some true)∧∀ C∈cl,XC K C [S]∧XF K C:=by
 have h:=y8.mp h
 refine ⟨fun C hC D hD=>?_,fun C hC=>?_,fun C hC=>?_⟩
 · have:=h C hC
   simp only [iC,y8,beq_iff_eq] at this
   exact this.2.2.2 D hD
 · have:=h C hC
   simp only [iC,beq_iff_eq] at this
   exact this.2.2.1
 · have:=h C hC
   simp only [iC] at this
   exact ⟨IL this.1,P6 this.2.1⟩
end EX
namespace fu
open PySem L2 VT
theorem P8 {K:PySem.W.Frag} {h:Heap} {mg:Str→Option Value} (X:K.In h) (G:h.Ns mainGlobals mg) {x:Str} {st:Stmt} {ps:List Str} {f:Addr} {oc:Value} {od an:Option Addr} {yd:Array (Option Value)} {kV doc pm bD ct:Value}
  (a:PySem.W.nsIn K mainGlobals x=some (some (.ref f))) (l:K.lookup f=some ⟨oc,od,.func (PySem.W.fnOf x x (d_ st) (cf st) (aj st) .none kV doc pm an bD ct),yd⟩)
  (c:PySem.W.codeIn K bD x=true) (k:PySem.W.keepIn K (.ref f)=true)
  (hb:∀ (kV doc pm:Value) (an:Option Addr) (bD ct:Value) (us:List Value),us.length=ps.length→bindArgs (PySem.W.fnOf x x (d_ st) (cf st) (aj st) .none kV doc pm an bD ct) ⟨us,[]⟩=pure (ps.zip us)) :
  ∃ f fd,Df K mg x st ps f fd:=by
 have F:=r9 (st:=st) l c k
 exact ⟨f,_,F,jJ X G a,F.binds hb⟩
theorem UL {C:List Value→Prop} (h:C []):∀ us:List Value,us.length=0→C us
 | [],_=>h
theorem D' {n:Nat} {C:List Value→Prop} (h:∀ a,∀ us:List Value,us.length=n→C (a :: us)):∀ us:List Value,us.length=n+1→C us
 | a :: us,e=>h a us (Nat.succ.inj e)
theorem P9 {C:List Value→Prop} (h:∀ a,C [a]):∀ us:List Value,us.length=1→C us:=D' fun a=>UL (h a)
theorem tY {C:List Value→Prop} (h:∀ a,C [a]):∀ us:List Value,us.length=1→C us:=P9 h
theorem Bj {C:List Value→Prop} (h:∀ a b,C [a,b]):∀ us:List Value,us.length=2→C us:=D' fun a=>tY (h a)
theorem P_ {C:List Value→Prop} (h:∀ a b c,C [a,b,c]):∀ us:List Value,us.length=3→C us:=D' fun a=>Bj (h a)
theorem Wf {C:List Value→Prop} (h:∀ a b c d,C [a,b,c,d]):∀ us:List Value,us.length=4→C us:=D' fun a=>P_ (h a)
theorem Yw {C:List Value→Prop} (h:∀ a b c d e,C [a,b,c,d,e]):∀ us:List Value,us.length=5→C us:=D' fun a=>Wf (h a)
abbrev pE:Program:=PySem.Challenge.pw_slicewise_k07_blocks_refused
noncomputable def qE:Program:=PySem.W.view pE [1,2,3,4,5,6,7,8,9,10,12,13,14,15,16,17,18,19,20,21,22,23,24,25,26,28,29,30,31,32,33,34,35,36,37,38,40,41,42,43,44,45,46,47,48,49,50,51,52,53,54,55]
def pO:List Str:=["FORMS"]
def IM:List Addr:=[0,1,2,3,4,5,6,7,8,9,10,11,12,13,14,15,22,23,24,25,28,35,36,37,40,47,48,49,52,59,60,61,64,71,72,73,76,83,84,85,88,95,96,97,98,99,100,101,102,103,104,107,114,115,116,117,118,119,120,121,122,123,126,133,134,135,136,137,138,139,140,141,142,145,152,153,154,155,156,157,158,159,160,161,164,165,166,167,168,169,170,171,172,173,174,175,176,177,178,179,180,181,182,183,184,185,186,187,188,189,190,191,192,193,194,195,196,197,198,199,200,201,202,203,204,205,206,207,208,209,210,211,212,213,214,215,216,217,218,219,220,221,222,223,224,225,226,227,228,229,230,231,232,233,234,235,236,237,238,239,240,241,242,243,244,245,246,247,248,249,250,251,252,253,254,255,256,257,258,259,260,261,262,263,264,265,266,267,268,269,270,271,272,273,274,275,276,277,278,279,280,281,282,283,284,285,286,287,288,289,290,291,292,293,294,295,296,297,298,299,300,301,302,303,304,305,306,307,308,309,310,311,312,313,314,315,316,317,318,319,320,321,322,323,324,325,326,327,328,329,330,331,332,333,334,335,336,337,338,339,340,341,342,343,344,345,346,347,348,349,350,351,352,353,354,355,356,357,358,359,360,361,362,363,364,365,366,367,368,369,370,371,372,373,374,375,376,377,378,379,380,381,382,383,384,385,386,387,388,389,390,391,392,393,394,395,396,397,398,399,400,401,402]
abbrev OV:=Option (Option Value)
abbrev OO:=Option Obj
abbrev N (K:PySem.W.Frag) (x:Str):=PySem.W.nsIn K mainGlobals x
abbrev Lk (K:PySem.W.Frag) (a:Addr):=List.lookup a K
abbrev R (a:Addr):OV:=some (some (.ref a))
abbrev fo (x q:Str) (st:Stmt) (pm:Value) (c:Addr):OO:=some ⟨.type "function",none,.func (PySem.W.fnOf x q (d_ st) (cf st) (aj st) .none .none .none pm none (.ref c) .none),#[]⟩
abbrev cI (K:PySem.W.Frag) (c:Value) (q:Str):=PySem.W.codeIn K c q
abbrev kI (K:PySem.W.Frag) (f:Addr):=PySem.W.keepIn K (.ref f)
abbrev fI (K:PySem.W.Frag) (c:Addr) (x:Str):=PySem.W.findIn K (.ref c) x
abbrev Q4:=OV×OO×Bool×Bool
noncomputable def q4 (K:PySem.W.Frag) (x:Str) (f c:Addr):Q4:=(N K x,Lk K f,cI K (.ref c) x,kI K f)
noncomputable def v4 (x:Str) (st:Stmt) (f:Addr) (pm:Value) (c:Addr):Q4:=(R f,fo x x st pm c,true,true)
theorem bF {K:PySem.W.Frag} {h:Heap} {mg:Str→Option Value} (X:K.In h) (G:h.Ns mainGlobals mg) {x:Str} {st:Stmt} {ps:List Str} {f c:Addr} {pm:Value} (e:q4 K x f c=v4 x st f pm c)
  (hb:∀ (kV doc pm:Value) (an:Option Addr) (bD ct:Value) (us:List Value),us.length=ps.length→bindArgs (PySem.W.fnOf x x (d_ st) (cf st) (aj st) .none kV doc pm an bD ct) ⟨us,[]⟩=pure (ps.zip us)) :
  ∃ f fd,Df K mg x st ps f fd:=by
 unfold q4 v4 at e
 simp only [Prod.mk.injEq] at e
 exact P8 X G e.1 e.2.1 e.2.2.1 e.2.2.2 hb
abbrev XX:Type:=((((((OV×(OV×OV))×(OV×(OV×OV)))×((OO×(OV×OO))×((OV×OO)×(OV×OV))))×(((OV×(OV×OV))×((OV×OV)×(OV×OV)))×((OV×(OV×OV))×((OV×OV)×(OV×OV)))))×((((OV×(OV×OV))×(OV×(OV×OO)))×((OO×(OO×OO))×((OO×OO)×(OO×OO))))×(((OO×(OO×OO))×((OO×OO)×(OO×OO)))×((OV×(OV×OV))×((OV×OV)×(OV×OV))))))×(((((OV×(OV×OV))×(Bool×(Bool×Bool)))×((OV×(Bool×OO))×((Bool×Bool)×(Bool×OV))))×(((Bool×(OO×Bool))×((Bool×Bool)×(OV×OO)))×((Bool×(Bool×Q4))×((Q4×Q4)×(Q4×Q4)))))×((((Q4×(Q4×Q4))×(Q4×(Q4×Q4)))×((Q4×(Q4×Q4))×((Q4×Q4)×(Q4×Q4))))×(((Q4×(Q4×Q4))×((Q4×Q4)×(Q4×Q4)))×((Q4×(Q4×Q4))×((Q4×Q4)×(Q4×Q4)))))))
noncomputable def FF (K:PySem.W.Frag):XX:=((((((N K "H",(N K "LETTERS",N K "LONGEST_NAME")),(N K "MOST_PARTS",(N K "MOST_ROWS",N K "RECKONINGS"))),((Lk K 164,(N K "OPENERS",Lk K 235)),((N K "CLOSERS",Lk K 236),(N K "isinstance",N K "int")))),(((N K "bool",(N K "str",N K "len")),((N K "all",N K "tuple"),(N K "set",N K "zip"))),((N K "range",(N K "sum",N K "list")),((N K "enumerate",N K "ValueError"),(N K "is_name",N K "are_parameters"))))),((((N K "is_operand",(N K "is_reckoning",N K "is_key")),(N K "are_operands",(N K "FORMS",Lk K 215))),((Lk K 229,(Lk K 228,Lk K 227)),((Lk K 226,Lk K 225),(Lk K 224,Lk K 223)))),(((Lk K 222,(Lk K 221,Lk K 220)),((Lk K 219,Lk K 218),(Lk K 217,Lk K 216))),((N K "SliceError",(N K "TooGreat",N K "NoRow")),((N K "NoBlock",N K "NoCall"),(N K "NoText",N K "NoPlace")))))),(((((N K "Unlike",(N K "NoFault",N K "Done")),(EX.We K [37,104,123,142,161,49,61,73,85] 24,(EX.UK K 24,EX.Rr K 24 []))),((fI K 123 "__init__",(PySem.W.isFn K (.ref 120),Lk K 120)),((cI K (.ref 119) "NoBlock.__init__",kI K 120),(kI K 123,fI K 142 "__init__")))),(((PySem.W.isFn K (.ref 139),(Lk K 139,cI K (.ref 138) "NoCall.__init__")),((kI K 139,kI K 142),(N K "law",Lk K 402))),((cI K (.ref 401) "law",(kI K 402,q4 K "is_number" 171 170)),((q4 K "is_name" 176 175,q4 K "is_operand" 183 182),(q4 K "is_field" 190 189,q4 K "is_key" 197 196))))),((((q4 K "is_reckoning" 204 203,(q4 K "are_operands" 209 208,q4 K "are_parameters" 214 213)),(q4 K "is_row" 234 233,(q4 K "may_stand" 264 263,q4 K "go_past" 271 270))),((q4 K "check_rows" 250 249,(q4 K "check_blocks" 257 256,q4 K "first_defs" 285 284)),((q4 K "may_call" 292 291,q4 K "check_calls" 278 277),(q4 K "program_of" 243 242,q4 K "_law_cell_at" 299 298)))),(((q4 K "_law_words" 306 305,(q4 K "_law_operand" 313 312,q4 K "_law_key" 320 319)),((q4 K "_law_call" 327 326,q4 K "_law_simple" 334 333),(q4 K "_law_lay" 341 340,q4 K "_law_plan" 346 345))),((q4 K "_law_program" 353 352,(q4 K "_law_which" 360 359,q4 K "_law_outcome" 367 366)),((q4 K "_law_turned" 374 373,q4 K "_law_open" 381 380),(q4 K "_law_breaks" 388 387,q4 K "_law_due" 395 394)))))))
noncomputable def VV (w:World):XX:=((((((some (some (.int 1000000000000000000000000000000 389)),(some (some (.str ym.bw 391)),some (some (.int 8 393)))),(some (some (.int 4 395)),(some (some (.int 60 495)),R 164))),((some ⟨.type "tuple",none,.seq #[.str "plus" 397,.str "minus" 398,.str "times" 399,.str "over" 400,.str "rest" 401,.str "less" 402,.str "same" 403] 0,#[]⟩,(R 235,some ⟨.type "tuple",none,.seq #[.str "def" 497,.str "if" 498,.str "while" 499] 0,#[]⟩)),((R 236,some ⟨.type "tuple",none,.seq #[.str "give" 501,.str "end" 502] 0,#[]⟩),(some none,some none)))),(((some none,(some none,some none)),((some none,some none),(some none,some none))),((some none,(some none,some none)),((some none,some none),(R 176,R 214))))),((((R 183,(R 204,R 197)),(R 209,(R 215,some ⟨.type "dict",none,.dict #[⟨PyData.keyHash w.params "def",.str "def" 458,.ref 216⟩,⟨PyData.keyHash w.params "give",.str "give" 459,.ref 217⟩,⟨PyData.keyHash w.params "put",.str "put" 460,.ref 218⟩,⟨PyData.keyHash w.params "do",.str "do" 461,.ref 219⟩,⟨PyData.keyHash w.params "new",.str "new" 462,.ref 220⟩,⟨PyData.keyHash w.params "get",.str "get" 463,.ref 221⟩,⟨PyData.keyHash w.params "set",.str "set" 464,.ref 222⟩,⟨PyData.keyHash w.params "call",.str "call" 465,.ref 223⟩,⟨PyData.keyHash w.params "fail",.str "fail" 466,.ref 224⟩,⟨PyData.keyHash w.params "if",.str "if" 467,.ref 225⟩,⟨PyData.keyHash w.params "else",.str "else" 468,.ref 226⟩,⟨PyData.keyHash w.params "while",.str "while" 469,.ref 227⟩,⟨PyData.keyHash w.params "end",.str "end" 470,.ref 228⟩,⟨PyData.keyHash w.params "skip",.str "skip" 471,.ref 229⟩] 14,#[]⟩))),((some ⟨.type "tuple",none,.seq #[] 0,#[]⟩,(some ⟨.type "tuple",none,.seq #[] 0,#[]⟩,some ⟨.type "tuple",none,.seq #[.ref 183] 0,#[]⟩)),((some ⟨.type "tuple",none,.seq #[] 0,#[]⟩,some ⟨.type "tuple",none,.seq #[.ref 183] 0,#[]⟩),(some ⟨.type "tuple",none,.seq #[.ref 176] 0,#[]⟩,some ⟨.type "tuple",none,.seq #[.ref 176,.ref 176,.ref 209] 0,#[]⟩)))),(((some ⟨.type "tuple",none,.seq #[.ref 176,.ref 197,.ref 183] 0,#[]⟩,(some ⟨.type "tuple",none,.seq #[.ref 176,.ref 176,.ref 197] 0,#[]⟩,some ⟨.type "tuple",none,.seq #[.ref 176] 0,#[]⟩)),((some ⟨.type "tuple",none,.seq #[.ref 176,.ref 183,.ref 204,.ref 183] 0,#[]⟩,some ⟨.type "tuple",none,.seq #[.ref 176,.ref 183] 0,#[]⟩),(some ⟨.type "tuple",none,.seq #[.ref 183] 0,#[]⟩,some ⟨.type "tuple",none,.seq #[.ref 176,.ref 214] 0,#[]⟩))),((R 24,(R 37,R 104)),((R 123,R 142),(R 161,R 49)))))),(((((R 61,(R 73,R 85)),(true,(true,true))),((some (some (.ref 120)),(true,fo "__init__" "NoBlock.__init__" DG.gw (.str "slicewise.errors" 187) 119)),((true,true),(true,some (some (.ref 139)))))),(((true,(fo "__init__" "NoCall.__init__" DG.ja (.str "slicewise.errors" 187) 138,true)),((true,true),(R 402,fo "law" "law" pM.jI (.str "law_slicewise_k07_blocks_refused" 578) 401))),((true,(true,v4 "is_number" fH.fJ 171 (.str "slicewise.rows" 387) 170)),((v4 "is_name" fH.jj 176 (.str "slicewise.rows" 387) 175,v4 "is_operand" fH.gQ 183 (.str "slicewise.rows" 387) 182),(v4 "is_field" fH.jV 190 (.str "slicewise.rows" 387) 189,v4 "is_key" fH.oQ 197 (.str "slicewise.rows" 387) 196))))),((((v4 "is_reckoning" fH.dc 204 (.str "slicewise.rows" 387) 203,(v4 "are_operands" fH.de 209 (.str "slicewise.rows" 387) 208,v4 "are_parameters" fH.dO 214 (.str "slicewise.rows" 387) 213)),(v4 "is_row" fH.oZ 234 (.str "slicewise.rows" 387) 233,(v4 "may_stand" fH.iW 264 (.str "slicewise.programs" 493) 263,v4 "go_past" fH.gp 271 (.str "slicewise.programs" 493) 270))),((v4 "check_rows" fH.gT 250 (.str "slicewise.programs" 493) 249,(v4 "check_blocks" EC.bV 257 (.str "slicewise.programs" 493) 256,v4 "first_defs" fH.gU 285 (.str "slicewise.programs" 493) 284)),((v4 "may_call" EC.dP 292 (.str "slicewise.programs" 493) 291,v4 "check_calls" EC.cc 278 (.str "slicewise.programs" 493) 277),(v4 "program_of" EC.bQ 243 (.str "slicewise.programs" 493) 242,v4 "_law_cell_at" dR.gq 299 (.str "law_slicewise_k07_blocks_refused" 578) 298)))),(((v4 "_law_words" dR.kY 306 (.str "law_slicewise_k07_blocks_refused" 578) 305,(v4 "_law_operand" dR.gr 313 (.str "law_slicewise_k07_blocks_refused" 578) 312,v4 "_law_key" dR.vk 320 (.str "law_slicewise_k07_blocks_refused" 578) 319)),((v4 "_law_call" dR.s_call 327 (.str "law_slicewise_k07_blocks_refused" 578) 326,v4 "_law_simple" dR.i_ 334 (.str "law_slicewise_k07_blocks_refused" 578) 333),(v4 "_law_lay" dR.vm 341 (.str "law_slicewise_k07_blocks_refused" 578) 340,v4 "_law_plan" dR.pD 346 (.str "law_slicewise_k07_blocks_refused" 578) 345))),((v4 "_law_program" dR.gu 353 (.str "law_slicewise_k07_blocks_refused" 578) 352,(v4 "_law_which" IA.h_ 360 (.str "law_slicewise_k07_blocks_refused" 578) 359,v4 "_law_outcome" IA.jm 367 (.str "law_slicewise_k07_blocks_refused" 578) 366)),((v4 "_law_turned" pM.kZ 374 (.str "law_slicewise_k07_blocks_refused" 578) 373,v4 "_law_open" pM.tD 381 (.str "law_slicewise_k07_blocks_refused" 578) 380),(v4 "_law_breaks" pM.k6 388 (.str "law_slicewise_k07_blocks_refused" 578) 387,v4 "_law_due" pM.yP 395 (.str "law_slicewise_k07_blocks_refused" 578) 394)))))))
theorem xG (w:World) (os:OsState):HE.lookA pE qE pO [] [] (HE.dA (w.withFollow "special-get-raises" false).params) (PySem.W.boot_heap (w.withFollow "special-get-raises" false).params) (w.withFollow "special-get-raises" false) 3684 os=some (true,(PySem.W.openGood qE pO).1,(PySem.W.openGood qE pO).2.1):=by
 rw [PySem.W.Fast.te2848547177322276819]
 kernel_rfl
theorem AV (w:World) (os:OsState):HE.lookA pE qE pO [] [] (HE.dA (w.withFollow "special-get-raises" true).params) (PySem.W.boot_heap (w.withFollow "special-get-raises" true).params) (w.withFollow "special-get-raises" true) 3684 os=some (true,(PySem.W.openGood qE pO).1,(PySem.W.openGood qE pO).2.1):=by
 rw [PySem.W.Fast.te2848547177322276819]
 kernel_rfl
theorem UM (w:World) (os:OsState):HE.lookA pE qE pO [] [] (HE.dA (w).params) (PySem.W.boot_heap (w).params) (w) 3684 os=some (true,(PySem.W.openGood qE pO).1,(PySem.W.openGood qE pO).2.1) :=
 PySem.W.byRow2 "special-get-raises" (P:=fun w=>∀ os,HE.lookA pE qE pO [] [] (HE.dA (w).params) (PySem.W.boot_heap (w).params) (w) 3684 os=some (true,(PySem.W.openGood qE pO).1,(PySem.W.openGood qE pO).2.1)) xG AV w os
theorem xH (w:World) (os:OsState):HE.lookB pE qE pO [] [] (HE.dA (w.withFollow "special-get-raises" false).params) (w.withFollow "special-get-raises" false) 3684 os=some (PySem.W.openGood qE pO).2.2:=by
 rw [PySem.W.Fast.te312265020846911052]
 kernel_rfl
theorem AW (w:World) (os:OsState):HE.lookB pE qE pO [] [] (HE.dA (w.withFollow "special-get-raises" true).params) (w.withFollow "special-get-raises" true) 3684 os=some (PySem.W.openGood qE pO).2.2:=by
 rw [PySem.W.Fast.te312265020846911052]
 kernel_rfl
theorem UN (w:World) (os:OsState):HE.lookB pE qE pO [] [] (HE.dA (w).params) (w) 3684 os=some (PySem.W.openGood qE pO).2.2 :=
 PySem.W.byRow2 "special-get-raises" (P:=fun w=>∀ os,HE.lookB pE qE pO [] [] (HE.dA (w).params) (w) 3684 os=some (PySem.W.openGood qE pO).2.2) xH AW w os
theorem xI (w:World) (os:OsState):HE.lookC pE IM FF (HE.dA (w.withFollow "special-get-raises" false).params) (w.withFollow "special-get-raises" false) 3684 os=some (VV (w.withFollow "special-get-raises" false)):=by
 rw [PySem.W.Fast.te3135357915001837337]
 kernel_rfl
theorem AX (w:World) (os:OsState):HE.lookC pE IM FF (HE.dA (w.withFollow "special-get-raises" true).params) (w.withFollow "special-get-raises" true) 3684 os=some (VV (w.withFollow "special-get-raises" true)):=by
 rw [PySem.W.Fast.te3135357915001837337]
 kernel_rfl
theorem runC (w:World) (os:OsState):HE.lookC pE IM FF (HE.dA (w).params) (w) 3684 os=some (VV (w)) :=
 PySem.W.byRow2 "special-get-raises" (P:=fun w=>∀ os,HE.lookC pE IM FF (HE.dA (w).params) (w) 3684 os=some (VV (w))) xI AX w os
theorem L_:PySem.Challenge.rw_slicewise_k07_blocks_refused.wellSaid=true:=by kernel_rfl
noncomputable abbrev KE (w:World):PySem.W.Frag:=HE.Kf IM (HE.sI pE 8048 w)
noncomputable abbrev dE:DefRec:=HE.OF pM.jI
theorem hd:PySem.W.LeftO pE qE pO (HE.F6 qE [] []) (fun s=>IM.map s.heap.get?) (fun w=>IM.map (HE.sI pE 8048 w)) 8048∧∀ w,FF (KE w)=VV w:=HE.head (p:=pE) (q:=qE) (loose:=pO) (lv:=[]) (R:=[]) (as:=IM) (N:=8048) (M:=3684) (F:=FF) (v:=VV) (by kernel_rfl) rfl (fun s=>by kernel_rfl) rfl UM UN runC
theorem L' {l:PySem.W.OpenLaw} {w:World} {K:PySem.W.Frag} {h:Heap} {mg:Str→Option Value} {fa:Addr} (X:K.In h) (G:h.Ns mainGlobals mg) (Wg:mg "law" = some (.ref fa)) (hF:FF K=VV w) :
  ∃ fd:FuncData,(∀ (s:Shared) (v:Value),BindsTo s fd ⟨[v],[]⟩ [("_law_script",v)])∧∀ base:Heap,K.In base→base.Ns mainGlobals mg→cD l.prog w K mg base iK 9 fa fd ["_law_script"] (bS K 1 pM.Hg):=by
 simp only [FF,VV,Prod.mk.injEq] at hF
 obtain ⟨⟨⟨⟨⟨⟨Yx,⟨Yy,Yz⟩⟩,⟨YA,⟨YB,UO⟩⟩⟩,⟨⟨UP,⟨UQ,UR⟩⟩,⟨⟨US,UT⟩,⟨gd,xJ⟩⟩⟩⟩,⟨⟨⟨tK,⟨Ea,pP⟩⟩,⟨⟨Eb,vB⟩,⟨Ma,Mb⟩⟩⟩,⟨⟨vC,⟨Mc,y7⟩⟩,⟨⟨tO,qK⟩,⟨xK,k7⟩⟩⟩⟩⟩,⟨⟨⟨⟨qL,⟨mW,AY⟩⟩,⟨mX,⟨UU,UW⟩⟩⟩,⟨⟨Hl,⟨Hm,Hn⟩⟩,⟨⟨Ho,Md⟩,⟨Me,Mf⟩⟩⟩⟩,⟨⟨⟨Mg,⟨Mh,Mi⟩⟩,⟨⟨Mj,Ml⟩,⟨Mm,Mn⟩⟩⟩,⟨⟨gf,⟨vD,Ec⟩⟩,⟨⟨pQ,rO⟩,⟨AZ,xM⟩⟩⟩⟩⟩⟩,⟨⟨⟨⟨⟨A0,⟨xN,Hq⟩⟩,⟨xO,⟨YC,YD⟩⟩⟩,⟨⟨xP,⟨xQ,xR⟩⟩,⟨⟨xS,xT⟩,⟨xU,A1⟩⟩⟩⟩,⟨⟨⟨A2,⟨A3,A4⟩⟩,⟨⟨A5,A6⟩,⟨P',Qa⟩⟩⟩,⟨⟨Qb,⟨Qc,UX⟩⟩,⟨⟨UY,UZ⟩,⟨U0,U1⟩⟩⟩⟩⟩,⟨⟨⟨⟨U2,⟨U3,U4⟩⟩,⟨U5,⟨U6,Qd⟩⟩⟩,⟨⟨Qe,⟨Qf,Qg⟩⟩,⟨⟨Qh,Qi⟩,⟨Qj,Qk⟩⟩⟩⟩,⟨⟨⟨Ql,⟨Qm,Qn⟩⟩,⟨⟨Qo,Qp⟩,⟨Qq,Qr⟩⟩⟩,⟨⟨Qs,⟨Qt,Qu⟩⟩,⟨⟨Qv,Qw⟩,⟨Qx,Qy⟩⟩⟩⟩⟩⟩⟩:=hF
 have e:=Wg.symm.trans (jJ X G P')
 cases e
 have pR:=r9 (st:=DG.gw) xR xS xT
 have xV:DG.DX K mg "NoBlock" "NoBlock.__init__" DG.gw 24 123 120 _:=⟨pR,jJ X G pQ,xU,pR.binds (fun _ _ _ _ _ _=>(fu.Bj fun _ _=>rfl)),((EX.pN xO).2.2 123 (by simp)).1,((EX.pN xO).2.2 123 (by simp)).2,xP,beq_iff_eq.mp xQ⟩
 have rP:=r9 (st:=DG.ja) A3 A4 A5
 have A7:DG.DX K mg "NoCall" "NoCall.__init__" DG.ja 24 142 139 _:=⟨rP,jJ X G rO,A6,rP.binds (fun _ _ _ _ _ _=>(fu.Bj fun _ _=>rfl)),((EX.pN xO).2.2 142 (by simp)).1,((EX.pN xO).2.2 142 (by simp)).2,A1,beq_iff_eq.mp A2⟩
 have M2:fH.Rb mg:=⟨⟨_,jJ X G Yx⟩,⟨_,jJ X G Yy⟩,⟨_,jJ X G Yz⟩,(kc X G gd),(kc X G xJ),(kc X G tK),(kc X G Ea),(kc X G pP),(kc X G Eb)⟩
 have M3:fH.Lj w K mg:=⟨M2,⟨_,jJ X G YA⟩,⟨164,jJ X G UO,fun H=>.inr ⟨_,_,_,UP,rfl,rfl,Gen.small (by simp),.cons ⟨_,rfl⟩ (.cons ⟨_,rfl⟩ (.cons ⟨_,rfl⟩ (.cons ⟨_,rfl⟩ (.cons ⟨_,rfl⟩ (.cons ⟨_,rfl⟩ (.cons ⟨_,rfl⟩ (.nil)))))))⟩⟩,(kc X G gd),(kc X G xJ),(kc X G tK),(kc X G Ea),(kc X G pP),(kc X G Eb),(kc X G vB),(kc X G Ma),(kc X G Mb)⟩
 have M4:fH.VZ w K mg:=⟨M3,⟨215,fun s=>match s with | .nm=>176 | .op=>183 | .key=>197 | .rk=>204 | .par=>214 | .ops=>209,(jJ X G UU),fun s=>match s with | .nm=>(jJ X G xK) | .op=>(jJ X G qL) | .key=>(jJ X G AY) | .rk=>(jJ X G mW) | .par=>(jJ X G k7) | .ops=>(jJ X G mX),⟨_,_,UW,(by first | rfl | decide),.cons ⟨rfl,⟨_,rfl⟩,.ref 216,rfl,fun _ _=>bz (vs:=[V.ref 176,V.ref 214]) (.inr ⟨_,_,_,Mn,rfl,rfl,Gen.small (by simp),.cons rfl (.cons rfl (.nil))⟩) (aG.cons (by simp only [At]) (aG.cons (by simp only [At]) (aG.nil)))⟩ (.cons ⟨rfl,⟨_,rfl⟩,.ref 217,rfl,fun _ _=>bz (vs:=[V.ref 183]) (.inr ⟨_,_,_,Mm,rfl,rfl,Gen.small (by simp),.cons rfl (.nil)⟩) (aG.cons (by simp only [At]) (aG.nil))⟩ (.cons ⟨rfl,⟨_,rfl⟩,.ref 218,rfl,fun _ _=>bz (vs:=[V.ref 176,V.ref 183]) (.inr ⟨_,_,_,Ml,rfl,rfl,Gen.small (by simp),.cons rfl (.cons rfl (.nil))⟩) (aG.cons (by simp only [At]) (aG.cons (by simp only [At]) (aG.nil)))⟩ (.cons ⟨rfl,⟨_,rfl⟩,.ref 219,rfl,fun _ _=>bz (vs:=[V.ref 176,V.ref 183,V.ref 204,V.ref 183]) (.inr ⟨_,_,_,Mj,rfl,rfl,Gen.small (by simp),.cons rfl (.cons rfl (.cons rfl (.cons rfl (.nil))))⟩) (aG.cons (by simp only [At]) (aG.cons (by simp only [At]) (aG.cons (by simp only [At]) (aG.cons (by simp only [At]) (aG.nil)))))⟩ (.cons ⟨rfl,⟨_,rfl⟩,.ref 220,rfl,fun _ _=>bz (vs:=[V.ref 176]) (.inr ⟨_,_,_,Mi,rfl,rfl,Gen.small (by simp),.cons rfl (.nil)⟩) (aG.cons (by simp only [At]) (aG.nil))⟩ (.cons ⟨rfl,⟨_,rfl⟩,.ref 221,rfl,fun _ _=>bz (vs:=[V.ref 176,V.ref 176,V.ref 197]) (.inr ⟨_,_,_,Mh,rfl,rfl,Gen.small (by simp),.cons rfl (.cons rfl (.cons rfl (.nil)))⟩) (aG.cons (by simp only [At]) (aG.cons (by simp only [At]) (aG.cons (by simp only [At]) (aG.nil))))⟩ (.cons ⟨rfl,⟨_,rfl⟩,.ref 222,rfl,fun _ _=>bz (vs:=[V.ref 176,V.ref 197,V.ref 183]) (.inr ⟨_,_,_,Mg,rfl,rfl,Gen.small (by simp),.cons rfl (.cons rfl (.cons rfl (.nil)))⟩) (aG.cons (by simp only [At]) (aG.cons (by simp only [At]) (aG.cons (by simp only [At]) (aG.nil))))⟩ (.cons ⟨rfl,⟨_,rfl⟩,.ref 223,rfl,fun _ _=>bz (vs:=[V.ref 176,V.ref 176,V.ref 209]) (.inr ⟨_,_,_,Mf,rfl,rfl,Gen.small (by simp),.cons rfl (.cons rfl (.cons rfl (.nil)))⟩) (aG.cons (by simp only [At]) (aG.cons (by simp only [At]) (aG.cons (by simp only [At]) (aG.nil))))⟩ (.cons ⟨rfl,⟨_,rfl⟩,.ref 224,rfl,fun _ _=>bz (vs:=[V.ref 176]) (.inr ⟨_,_,_,Me,rfl,rfl,Gen.small (by simp),.cons rfl (.nil)⟩) (aG.cons (by simp only [At]) (aG.nil))⟩ (.cons ⟨rfl,⟨_,rfl⟩,.ref 225,rfl,fun _ _=>bz (vs:=[V.ref 183]) (.inr ⟨_,_,_,Md,rfl,rfl,Gen.small (by simp),.cons rfl (.nil)⟩) (aG.cons (by simp only [At]) (aG.nil))⟩ (.cons ⟨rfl,⟨_,rfl⟩,.ref 226,rfl,fun _ _=>bz (vs:=[]) (.inr ⟨_,_,_,Ho,rfl,rfl,Gen.small (by simp),.nil⟩) (aG.nil)⟩ (.cons ⟨rfl,⟨_,rfl⟩,.ref 227,rfl,fun _ _=>bz (vs:=[V.ref 183]) (.inr ⟨_,_,_,Hn,rfl,rfl,Gen.small (by simp),.cons rfl (.nil)⟩) (aG.cons (by simp only [At]) (aG.nil))⟩ (.cons ⟨rfl,⟨_,rfl⟩,.ref 228,rfl,fun _ _=>bz (vs:=[]) (.inr ⟨_,_,_,Hm,rfl,rfl,Gen.small (by simp),.nil⟩) (aG.nil)⟩ (.cons ⟨rfl,⟨_,rfl⟩,.ref 229,rfl,fun _ _=>bz (vs:=[]) (.inr ⟨_,_,_,Hl,rfl,rfl,Gen.small (by simp),.nil⟩) (aG.nil)⟩ (.nil)))))))))))))),by show ([("def" : Str),("give" : Str),("put" : Str),("do" : Str),("new" : Str),("get" : Str),("set" : Str),("call" : Str),("fail" : Str),("if" : Str),("else" : Str),("while" : Str),("end" : Str),("skip" : Str)]).Nodup; decide +kernel⟩⟩⟩
 have MP:fH.z7 w K mg:=⟨⟨_,jJ X G YB⟩,⟨235,jJ X G UQ,fun H=>.inr ⟨_,_,_,UR,rfl,rfl,Gen.small (by simp),.cons ⟨_,rfl⟩ (.cons ⟨_,rfl⟩ (.cons ⟨_,rfl⟩ (.nil)))⟩⟩,⟨236,jJ X G US,fun H=>.inr ⟨_,_,_,UT,rfl,rfl,Gen.small (by simp),.cons ⟨_,rfl⟩ (.cons ⟨_,rfl⟩ (.nil))⟩⟩,(kc X G y7),(kc X G pP),(kc X G tO)⟩
 have ML:pM.MN mg:=⟨(kc X G y7),(kc X G pP),(kc X G vC)⟩
 have MG:dR.LM mg:=⟨(kc X G pP),(kc X G vC),(kc X G vB),(kc X G Mc)⟩
 have Wh:EX.XS K 24:=EX.P7 YC
 have MC:IA.Us K mg 24 37 104 123 142 161 49 61 73 85:=⟨jJ X G gf,jJ X G vD,jJ X G Ec,jJ X G pQ,jJ X G rO,jJ X G AZ,jJ X G xM,jJ X G A0,jJ X G xN,jJ X G Hq,EX.IL YD,by decide,(EX.pN xO).1,(EX.pN xO).2.1,(EX.pN xO).2.2,(kc X G gd),(kc X G xJ),(kc X G tK),(kc X G qK)⟩
 obtain ⟨f0,ZS,D0⟩:=bF (ps:=["thing"]) X G UX (fun _ _ _ _ _ _=>(fu.tY fun _=>rfl))
 obtain ⟨f1,ZT,D1⟩:=bF (ps:=["thing"]) X G UY (fun _ _ _ _ _ _=>(fu.tY fun _=>rfl))
 obtain ⟨f2,ZU,D2⟩:=bF (ps:=["thing"]) X G UZ (fun _ _ _ _ _ _=>(fu.tY fun _=>rfl))
 obtain ⟨f3,ZV,D3⟩:=bF (ps:=["thing"]) X G U0 (fun _ _ _ _ _ _=>(fu.tY fun _=>rfl))
 obtain ⟨f4,ZW,D4⟩:=bF (ps:=["thing"]) X G U1 (fun _ _ _ _ _ _=>(fu.tY fun _=>rfl))
 obtain ⟨f5,ZX,D5⟩:=bF (ps:=["thing"]) X G U2 (fun _ _ _ _ _ _=>(fu.tY fun _=>rfl))
 obtain ⟨f6,ZY,D6⟩:=bF (ps:=["thing"]) X G U3 (fun _ _ _ _ _ _=>(fu.tY fun _=>rfl))
 obtain ⟨f7,ZZ,D7⟩:=bF (ps:=["thing"]) X G U4 (fun _ _ _ _ _ _=>(fu.tY fun _=>rfl))
 obtain ⟨f8,Z0,D8⟩:=bF (ps:=["row"]) X G U5 (fun _ _ _ _ _ _=>(fu.tY fun _=>rfl))
 obtain ⟨f9,Z1,D9⟩:=bF (ps:=["opened","word"]) X G U6 (fun _ _ _ _ _ _=>(fu.Bj fun _ _=>rfl))
 obtain ⟨Z2,YE,YF⟩:=bF (ps:=["opened","word"]) X G Qd (fun _ _ _ _ _ _=>(fu.Bj fun _ _=>rfl))
 obtain ⟨Z3,YG,YH⟩:=bF (ps:=["program"]) X G Qe (fun _ _ _ _ _ _=>(fu.tY fun _=>rfl))
 obtain ⟨Z4,YI,YJ⟩:=bF (ps:=["program"]) X G Qf (fun _ _ _ _ _ _=>(fu.tY fun _=>rfl))
 obtain ⟨Z5,YK,YL⟩:=bF (ps:=["program"]) X G Qg (fun _ _ _ _ _ _=>(fu.tY fun _=>rfl))
 obtain ⟨Z6,YM,YN⟩:=bF (ps:=["program","firsts","place"]) X G Qh (fun _ _ _ _ _ _=>(fu.P_ fun _ _ _=>rfl))
 obtain ⟨Z7,YO,YQ⟩:=bF (ps:=["program"]) X G Qi (fun _ _ _ _ _ _=>(fu.tY fun _=>rfl))
 obtain ⟨Z8,YR,YS⟩:=bF (ps:=["rows"]) X G Qj (fun _ _ _ _ _ _=>(fu.tY fun _=>rfl))
 obtain ⟨Z9,YT,YU⟩:=bF (ps:=["_law_script","_law_k"]) X G Qk (fun _ _ _ _ _ _=>(fu.Bj fun _ _=>rfl))
 obtain ⟨Z_,YV,YW⟩:=bF (ps:=["_law_cell","_law_many"]) X G Ql (fun _ _ _ _ _ _=>(fu.Bj fun _ _=>rfl))
 obtain ⟨f19,YX,YY⟩:=bF (ps:=["_law_number","_law_words_here"]) X G Qm (fun _ _ _ _ _ _=>(fu.Bj fun _ _=>rfl))
 obtain ⟨f20,YZ,Y0⟩:=bF (ps:=["_law_number","_law_words_here"]) X G Qn (fun _ _ _ _ _ _=>(fu.Bj fun _ _=>rfl))
 obtain ⟨f21,Y1,Y2⟩:=bF (ps:=["_law_number","_law_name","_law_words_here","_law_later"]) X G Qo (fun _ _ _ _ _ _=>(fu.Wf fun _ _ _ _=>rfl))
 obtain ⟨f22,Y3,Y4⟩:=bF (ps:=["_law_number","_law_words_here","_law_later"]) X G Qp (fun _ _ _ _ _ _=>(fu.P_ fun _ _ _=>rfl))
 obtain ⟨f23,Y5,Y6⟩:=bF (ps:=["_law_rows","_law_stack","_law_cell","_law_words_here","_law_later"]) X G Qq (fun _ _ _ _ _ _=>(fu.Yw fun _ _ _ _ _=>rfl))
 obtain ⟨f24,Y7,Y8⟩:=bF (ps:=["_law_cell","_law_words_here"]) X G Qr (fun _ _ _ _ _ _=>(fu.Bj fun _ _=>rfl))
 obtain ⟨f25,Y9,Y_⟩:=bF (ps:=["_law_cells","_law_words_here","_law_plan_here"]) X G Qs (fun _ _ _ _ _ _=>(fu.P_ fun _ _ _=>rfl))
 obtain ⟨f26,Y',Za⟩:=bF (ps:=["_law_error"]) X G Qt (fun _ _ _ _ _ _=>(fu.tY fun _=>rfl))
 obtain ⟨f27,Zb,Zd⟩:=bF (ps:=["_law_rows"]) X G Qu (fun _ _ _ _ _ _=>(fu.tY fun _=>rfl))
 obtain ⟨f28,Ze,Zf⟩:=bF (ps:=["_law_rows","_law_cell","_law_words_here"]) X G Qv (fun _ _ _ _ _ _=>(fu.P_ fun _ _ _=>rfl))
 obtain ⟨f29,Zg,Zh⟩:=bF (ps:=["_law_rows","_law_at"]) X G Qw (fun _ _ _ _ _ _=>(fu.Bj fun _ _=>rfl))
 obtain ⟨f30,Zi,Zj⟩:=bF (ps:=["_law_rows","_law_at"]) X G Qx (fun _ _ _ _ _ _=>(fu.Bj fun _ _=>rfl))
 obtain ⟨f31,Zk,Zl⟩:=bF (ps:=["_law_rows"]) X G Qy (fun _ _ _ _ _ _=>(fu.tY fun _=>rfl))
 have F:=r9 (st:=pM.jI) Qa Qb Qc
 have DL:Df K mg "law" pM.jI ["_law_script"] 402 _:=⟨F,Wg,F.binds (fun _ _ _ _ _ _=>P9 fun _=>rfl)⟩
 refine ⟨PySem.W.fnOf "law" "law" (d_ pM.jI) (cf pM.jI) (aj pM.jI) .none (.none) (.none) (.str "law_slicewise_k07_blocks_refused" 578) none (.ref 401) (.none),fun s v=>.of_eq rfl,fun base _ _=>?_⟩
 have hY:=DG.xy (P:=l.prog) (w:=w) (base:=base) xV Wh (jJ X G gf)
 have jk:=DG.AB (P:=l.prog) (w:=w) (base:=base) A7 Wh (jJ X G gf)
 have vE:=fH.zO (P:=l.prog) (w:=w) (base:=base) D0 M2
 have jq:=fH.Gp (P:=l.prog) (w:=w) (base:=base) D1 M2
 have ie:=fH.jX (P:=l.prog) (w:=w) (base:=base) D2 jq vE
 have xW:=fH.uV (P:=l.prog) (w:=w) (base:=base) D3 M3 jq
 have Ed:=fH.zQ (P:=l.prog) (w:=w) (base:=base) D4 M3 xW ie
 have pS:=fH.mQ (P:=l.prog) (w:=w) (base:=base) D5 M3
 have jb:=fH.mT (P:=l.prog) (w:=w) (base:=base) D6 M3 ie
 have me:=fH.kM (P:=l.prog) (w:=w) (base:=base) D7 M3 jb jq
 have Ee:=fH.zS (P:=l.prog) (w:=w) (base:=base) D8 M4 jq ie Ed pS me jb
 have vF:=fH.sX (P:=l.prog) (w:=w) (base:=base) D9 MP
 have A8:=fH.wZ (P:=l.prog) (w:=w) (base:=base) YF MP
 have tQ:=fH.qC (P:=l.prog) (w:=w) (base:=base) YH MP Ee
 have pT:=EC.iu (P:=l.prog) (w:=w) (base:=base) YJ MP hY vF A8
 have tR:=fH.qD (P:=l.prog) (w:=w) (base:=base) YL MP
 have xX:=EC.mx (P:=l.prog) (w:=w) (base:=base) YN MP
 have qM:=EC.i6 (P:=l.prog) (w:=w) (base:=base) YQ MP jk tR xX
 have tS:=EC.jH (P:=l.prog) (w:=w) (base:=base) YS MP tQ pT qM
 have pU:=dR.xt (P:=l.prog) (w:=w) (base:=base) YU MG
 have tT:=dR.Dv (P:=l.prog) (w:=w) (base:=base) YW MG
 have cx:=dR.jX (P:=l.prog) (w:=w) (base:=base) YY
 have xY:=dR.LN (P:=l.prog) (w:=w) (base:=base) Y0 cx
 have vG:=dR.G' (P:=l.prog) (w:=w) (base:=base) Y2 MG cx
 have qN:=dR.Ax (P:=l.prog) (w:=w) (base:=base) Y4 cx xY vG
 have xZ:=dR.LU (P:=l.prog) (w:=w) (base:=base) Y6 MG cx qN
 have vH:=dR.Ha (P:=l.prog) (w:=w) (base:=base) Y8 MG
 have pV:=dR.xw (P:=l.prog) (w:=w) (base:=base) Y_ MG cx xZ
 have tU:=IA.Dr (P:=l.prog) (w:=w) (base:=base) Za MC
 have pW:=IA.xr (P:=l.prog) (w:=w) (base:=base) Zd MC tS tU
 have qO:=pM.AF (P:=l.prog) (w:=w) (base:=base) Zf ML
 have my:=pM.He (P:=l.prog) (w:=w) (base:=base) Zh ML
 have qP:=pM.AD (P:=l.prog) (w:=w) (base:=base) Zj ML my
 have x4:=pM.LZ (P:=l.prog) (w:=w) (base:=base) Zl ML qP my
 exact pM.L0 (P:=l.prog) (w:=w) (base:=base) DL ML pU tT vH pV qO x4 pW
theorem walk {l:PySem.W.OpenLaw} {q:Program} {loose:List Str} {XP:(Str→Option Value)→Heap→Prop} {d:DefRec} {K:World→PySem.W.Frag} (hn:l.most=some 63) (Sq:d.params.defaults=[])
  (F:∀ (w:World) (mg:Str→Option Value) (fa:Addr) (h:Heap),(K w).In h→h.Ns mainGlobals mg→mg d.name=some (.ref fa) →
    ∃ fd:FuncData,(∀ (s:Shared) (u:Value),BindsTo s fd ⟨[u],[]⟩ [("_law_script",u)])∧∀ base:Heap,(K w).In base→base.Ns mainGlobals mg→cD l.prog w (K w) mg base iK 9 fa fd ["_law_script"] (bS (K w) 1 pM.Hg)) :
  PySem.W.WalkO q loose XP (fun w h=>(K w).In h) l.row.toRowW d [] (fun f vs=>PySem.call f vs):=by
 refine QT.uc hn Sq fun w s₀ s₁ mg mb fa o pm cd doc a vs ns G Y ho hd iA NW JX hints hlen hg=>?_
 obtain ⟨fd,hb,hF⟩:=F w mg fa _ Y G.T.g NW
 exact BJ (CX:=iK) (sp:=bS (K w) 1 pM.Hg) (k:=9) Y G.T.g G.T.b G.T.builtins G.T.nolimit hg JX hints (mD hlen (by decide)) ⟨rfl,by decide,by decide⟩ hF hb (fun H _ hS =>
  ⟨[.lst (ns.map .int)],[],[],fun _ r=>r = .vw (.bl true),IX,fun _ z=>(nomatch z),fun _ z=>(nomatch z),dG rfl (aG.cons (by
     simp only [At]
     refine ⟨a,ns.map V.int,rfl,hS.imp (fun z=>⟨z,fun m=>nomatch m⟩) id,?_⟩
     clear hS
     clear hints hlen
     induction ns with
     | nil=>exact aG.nil
     | cons n ns ih=>exact aG.cons bE ih) aG.nil),⟨ns,rfl,hlen,rfl⟩,fun us r hr v H' _ z=>by
     subst hr
     have:=z.1
     simpa only [At] using this⟩) fun _ _ _ z=>z
end fu
open PySem PySem.W PyProof.Rows
set_option maxRecDepth 100000 in
set_option maxHeartbeats 0 in
theorem PySem.Challenge.cw_slicewise_k07_blocks_refused_holds : PySem.Challenge.rw_slicewise_k07_blocks_refused.Holds := by
 w_on
 refine PySem.W.holds_law fu.L_ fun L_=>?_
 refine PySem.W.holds_openX (q:=fu.qE) (loose:=fu.pO) (Xt:=HE.F6 fu.qE [] []) (XP:=PySem.W.XL fu.qE []) (d:=fu.dE) (kwd:=[]) (N:=8048) fu.hd.1 (fun s e=>PySem.W.xl_of s (Bool.and_eq_true_iff.mp e).1) PySem.W.XL.keeps (by kernel_rfl) (by kernel_rfl) (by kernel_rfl) (fun s e=>PySem.W.recFacts_of (Bool.and_eq_true_iff.mp e).2) (by kernel_rfl) L_ (by kernel_rfl) ⟨rfl,rfl,rfl,rfl,rfl,by decide +kernel⟩ ?hw ?hc
 (case hw=>w_witness2)
 exact HE.Cn (fu.walk (l:=PySem.Challenge.rw_slicewise_k07_blocks_refused) (K:=fu.KE) rfl rfl (fun w mg fa h KX G NW=>fu.L' KX G NW (fu.hd.2 w)))
