import PyProof.Rows.All
import Wide.All
import OpenK.AllK
import Wide.FinOn
import Lean
import PyProof.EqAt
import PyProof.EqKinds
import PyProof.TupleCall
import PyProof.NeKinds
import PyProof.Rows.SumAny
import PyProof.StrBlockL
import PyProof.StrBlockI
import PyProof.FitsReplace
import PyProof.Rows.SeqMore
import PyProof.Rows.TupAdd
import PyProof.Draws
import PyProof.ZipIter
import OpenK.ZGo
import PyProof.Rows.SetFrom
import PyProof.SetRoads
import PyProof.ListNew
import PyProof.Rows.SortStr
import PyProof.Rows.SortWalk
import PyProof.IsRules
import KE.KDictLaws
import PyProof.DictWalks
import PyProof.WalkInts
import PyProof.SeqRoads2
import PySem.Challenge.RW_slicewise_k08_calls_refused
set_option Elab.async false
set_option linter.all false
set_option maxRecDepth 100000
set_option maxHeartbeats 8000000
abbrev gg (x:PySem.Str):Prop:=(x == ("__debug__":PySem.Str))=false
abbrev ug (x:PySem.Str):Prop:=(x == ("__classdict__":PySem.Str))=false
abbrev de:=@PySem.Heap.get?_push_of_some
abbrev bZ:=@List.length_map
abbrev fH:=@List.getElem?_eq_some_iff
abbrev d8:=@List.not_mem_nil
abbrev dD:=@List.mem_cons
abbrev kg:=@List.getElem?_eq_getElem
abbrev ij:=@List.mem_cons_self
abbrev dG:=@PySem.Heap.lt_size
abbrev gD:=@List.size_toArray
abbrev jC:=@List.mem_cons_of_mem
abbrev dX:=@Nat.le_refl
abbrev lj:=@List.mem_append_right
abbrev ll:=@List.mem_append_left
abbrev iE:=@Bool.and_eq_true
abbrev iw:=@List.mem_append
abbrev gE:=@PySem.boot_len
abbrev kh:=@PySem.W.mg_none_of
abbrev mW:=@List.mem_of_getElem?
abbrev gF:=@Nat.ne_of_lt
abbrev ly:=@List.getElem?_map
abbrev nD:=@List.filterMap_cons
abbrev nE:=@PySem.Heap.get?_push_size
abbrev iF:=@List.map_cons
abbrev mX:=@Int.emod_lt_of_pos
abbrev nF:=@Nat.lt_of_lt_of_le
abbrev uh:=@List.getElem?_append_left
abbrev lp:=@Int.emod_nonneg
abbrev ui:=@PySem.F.slot_list_append
abbrev uj:=@PySem.F.type_list_append
abbrev jP:=@PySem.W.mg_of
abbrev qa:=@Bool.false_ne_true
abbrev qd:=@List.length_append
abbrev uk:=@List.getElem?_set_ne
abbrev km:=@Nat.zero_le
abbrev qe:=@List.nodup_cons
abbrev mD:=@Nat.le_trans
abbrev BH:=@List.getElem?_append_right
abbrev yq:=@List.getElem?_set_self
abbrev um:=@List.mem_singleton
abbrev v8:=@PySem.F.called_set
abbrev zt:=@List.zipWith_cons_cons
abbrev zu:=@List.zipWith_nil_left
abbrev ud:=@List.map_append
abbrev zw:=@List.forall_mem_cons
abbrev EI:=@Int.eq_ofNat_of_zero_le
abbrev uo:=@List.all_cons
abbrev wc:=@PySem.Heap.size_push
abbrev zx:=@List.all_eq_true
abbrev E_:=@List.length_replicate
abbrev MS:=@PyProof.Rows.slot_tuple_getitem
abbrev zy:=@List.mem_range
abbrev Bt:=@PySem.PassesOwn.never
abbrev HZ:=@PySem.Heap.get?_update_other
abbrev BI:=@List.getElem_mem
abbrev EJ:=@List.length_range
abbrev zA:=@Bool.true_and
abbrev yr:=@List.mem_map
abbrev Js:=@List.getElem?_replicate
abbrev zB:=@List.all_nil
abbrev H_:=@PySem.mem_of_lookup
abbrev EK:=@List.mem_filter
abbrev EL:=@List.append_nil
abbrev Jt:=@PySem.Heap.get?_update_self
abbrev Ju:=@List.mem_iff_getElem?
abbrev Bu:=@Nat.ne_of_gt
abbrev Fb:=@List.lookup_cons
abbrev Jv:=@List.dropLast_concat
abbrev Ia:=@Int.toNat_natCast
abbrev EM:=@Nat.lt_irrefl
abbrev Jw:=@PySem.Obj.data_mapFields
abbrev Nn:=@List.mem_or_eq_of_mem_set
abbrev MT:=@List.length_dropLast
abbrev Ib:=@Bool.eq_iff_iff
abbrev Ic:=@PySem.W.kia_one
abbrev MU:=@List.getLast?_concat
abbrev Jx:=@List.append_assoc
abbrev MV:=@Array.length_toList
abbrev Ie:=@Bool.false_and
abbrev Jy:=@Nat.lt_succ_self
abbrev Jz:=@List.length_cons
abbrev Np:=@Option.map_eq_some_iff
abbrev QO:=@PyProof.Rows.callWith_type1
abbrev MW:=@List.set_cons_succ
abbrev RW:=@PyProof.Rows.F.plain_set_update_loop
abbrev JA:=@List.length_set
abbrev Nq:=@PySem.Obj.isFreed_of_fields
abbrev Nr:=@PySem.F.slot_dict_get
abbrev QP:=@PySem.F.slot_tuple_iterator_next
abbrev Nt:=@PySem.Heap.get?_none_of_le
abbrev JB:=@List.nodup_nil
abbrev MX:=@List.length_take
abbrev MY:=@Option.bind_some
abbrev Ig:=@Int.zero_add
abbrev QQ:=@List.getElem?_cons_zero
abbrev QR:=@List.length_eq_zero_iff
abbrev QS:=@PySem.F.plainAttrs_list
abbrev MZ:=@List.find?_cons
abbrev QT:=@PySem.Calls.callWith_builtin
abbrev Nu:=@Nat.lt_succ_of_lt
abbrev JC:=@List.map_nil
abbrev QU:=@List.length_singleton
abbrev QV:=@Bool.beq_eq_decide_eq
abbrev QW:=@List.eq_nil_or_concat
abbrev RX:=@List.concat_eq_append
abbrev Nv:=@List.length_drop
abbrev QX:=@List.mem_of_mem_drop
abbrev QY:=@PySem.F.excBase_ValueError
abbrev QZ:=@List.mem_of_mem_take
abbrev M0:=@List.any_cons
abbrev RY:=@Array.getElem?_eq_some_iff
abbrev JD:=@Nat.le_succ
abbrev Q0:=@List.replicate_succ
abbrev Q1:=@List.filter_eq_self
abbrev RZ:=@List.drop_eq_getElem_cons
abbrev R0:=@List.pairwise_iff_getElem
abbrev Q2:=@PySem.W.callWith_K
abbrev R3:=@Option.isSome_iff_exists
abbrev R4:=@PySem.F.args_tuple_add_2
abbrev Q3:=@List.set_cons_zero
abbrev Q5:=@PySem.Code.quiet_builtin
abbrev R5:=@PySem.F.entry_tuple_add
abbrev R6:=@PySem.F.args_dict_get_2
abbrev R7:=@PySem.F.plainAttrs_dict
abbrev R8:=@PySem.F.slot_tuple_add
abbrev R9:=@PySem.F.entry_dict_get
abbrev Q6:=@List.take_length
namespace L2
open PySem PySem.Spec PyProof.Rows
abbrev Key:=Sum Int Str
def qU:Key→Value→Bool
 | .inl k,v=>Value.isInt k v
 | .inr x,v=>Value.isStrOf x v
def R_ (w:World):Key→Int
 | .inl k=>hashInt k
 | .inr x=>hashStr w x
theorem bS:∀ {k:Key} {v:Value},qU k v=true→(∃ i t,k=Sum.inl i∧v=Value.int i t)∨(∃ x t,k=Sum.inr x∧v=Value.str x t)
 | .inl i,v,h=>by
   obtain ⟨t,e⟩:=Value.isInt_shape (k:=i) (v:=v) h
   exact .inl ⟨i,t,rfl,e⟩
 | .inr x,v,h=>by
   obtain ⟨t,e⟩:=Value.isStrOf_shape (x:=x) (v:=v) h
   exact .inr ⟨x,t,rfl,e⟩
theorem zC (i:Int) (t:Tok):qU (.inl i) (.int i t)=true:=by simp [qU,Value.isInt]
theorem zD (x:Str) (t:Tok):qU (.inr x) (.str x t)=true:=by simp [qU,Value.isStrOf]
theorem JE (a b:Int):decide ((Sum.inl a:Key)=Sum.inl b)=(a == b):=by
 by_cases e:a=b
 · subst e; simp
 · have h:¬ (Sum.inl a:Key)=Sum.inl b:=fun q=>e (Sum.inl.inj q)
   rw [decide_eq_false h]
   exact (beq_eq_false_iff_ne.mpr e).symm
theorem JF (a b:Str):decide ((Sum.inr a:Key)=Sum.inr b)=decide (a=b):=by
 by_cases e:a=b
 · subst e; simp
 · have h:¬ (Sum.inr a:Key)=Sum.inr b:=fun q=>e (Sum.inr.inj q)
   rw [decide_eq_false h,decide_eq_false e]
theorem JG (a:Int) (b:Str):decide ((Sum.inl a:Key)=Sum.inr b)=false:=decide_eq_false (fun q=>nomatch q)
theorem JH (a:Str) (b:Int):decide ((Sum.inr a:Key)=Sum.inl b)=false:=decide_eq_false (fun q=>nomatch q)
def bB (prog:Program) (w:World):PySem.KeyKind prog w Key where
 is:=qU
 hash:=R_ w
 inj:=fun v a b ha hb=>by
  rcases bS ha with ⟨i,t,rfl,rfl⟩ | ⟨x,t,rfl,rfl⟩
  · rcases bS hb with ⟨j,u,rfl,e⟩ | ⟨y,u,rfl,e⟩
    · injection e with e1 _; rw [e1]
    · exact nomatch e
  · rcases bS hb with ⟨j,u,rfl,e⟩ | ⟨y,u,rfl,e⟩
    · exact nomatch e
    · injection e with e1 _; rw [e1]
 byValue:=fun k v h=>by
  rcases bS h with ⟨i,t,rfl,rfl⟩ | ⟨x,t,rfl,rfl⟩ <;> rfl
 pyHash:=fun hv h=>by
  rcases bS hv with ⟨i,t,rfl,rfl⟩ | ⟨x,t,rfl,rfl⟩
  · exact wpAny_pyHash_int h
  · exact wpAny_pyHash_str h
 eqBool:=fun hu hv h=>by
  rcases bS hu with ⟨i,t,rfl,rfl⟩ | ⟨x,t,rfl,rfl⟩
  · rcases bS hv with ⟨j,u,rfl,rfl⟩ | ⟨y,u,rfl,rfl⟩
    · rw [JE] at h; exact wpAny_eqBool_int h
    · rw [JG] at h; exact SeqAt.EqAt.int_str i t y u _ _ _ _ h
  · rcases bS hv with ⟨j,u,rfl,rfl⟩ | ⟨y,u,rfl,rfl⟩
    · rw [JH] at h; exact SeqAt.EqAt.str_int x t j u _ _ _ _ h
    · rw [JF] at h; exact wpAny_eqBool_str h
 «strs»:=fun k x t v h=>by
  rcases bS h with ⟨i,u,rfl,e⟩ | ⟨y,u,rfl,e⟩
  · exact nomatch e
  · injection e with e1 _
    subst e1
    cases v <;> rfl
theorem uq (prog:Program) (w:World) (i:Int) (t:Tok):(bB prog w).is (.inl i) (.int i t)=true:=zC i t
theorem ur (prog:Program) (w:World) (x:Str) (t:Tok):(bB prog w).is (.inr x) (.str x t)=true:=zD x t
inductive V where
 | bu | bl (b:Bool) | int (i:Int) | str (x:Str) | Vz (b:Array UInt8) | VB (b:UInt64) | ref (a:Addr) | ty (n:String)
 deriving DecidableEq
def RelV:V→Value→Prop
 | .bu,u=>u=Value.none
 | .bl b,u=>u=Value.bool b
 | .int i,u=>∃ t,u=Value.int i t
 | .str x,u=>∃ t,u=Value.str x t
 | .Vz b,u=>∃ t,u=Value.bytes b t
 | .VB b,u=>∃ t,u=Value.float b t
 | .ref a,u=>u=Value.ref a
 | .ty n,u=>u=Value.type n
abbrev Vals:List V→List Value→Prop:=Paired RelV
theorem Vals.length {xs:List V} {us:List Value} (r:Vals xs us):xs.length=us.length:=Paired.length r
theorem Vals.get:∀ {xs:List V} {us:List Value} {i:Nat} {x:V},Vals xs us→xs[i]?=some x→∃ u,us[i]?=some u∧RelV x u
 | _,_,_,_,.nil,e=>by simp at e
 | _,_,0,_,.cons r _,e=>by simp at e; subst e; exact ⟨_,rfl,r⟩
 | _,_,i+1,x,.cons _ t,e=>by
   obtain ⟨u,h1,h2⟩:=Vals.get (i:=i) (x:=x) t (by simpa using e)
   exact ⟨u,by simpa using h1,h2⟩
theorem Vals.set {x:V} {u:Value} (r:RelV x u):∀ {xs:List V} {us:List Value} (i:Nat),Vals xs us→Vals (xs.set i x) (us.set i u)
 | _,_,_,.nil=>.nil
 | _,_,0,.cons _ t=>.cons r t
 | _,_,i+1,.cons q t=>.cons q (Vals.set r i t)
theorem Vals.append:∀ {xs ys:List V} {us ws:List Value},Vals xs us→Vals ys ws→Vals (xs ++ ys) (us ++ ws)
 | _,_,_,_,.nil,s=>s
 | _,_,_,_,.cons r t,s=>.cons r (Vals.append t s)
theorem Vals.take:∀ {xs:List V} {us:List Value} (n:Nat),Vals xs us→Vals (xs.take n) (us.take n)
 | _,_,0,_=>.nil
 | _,_,_+1,.nil=>.nil
 | _,_,n+1,.cons r t=>.cons r (Vals.take n t)
theorem Vals.drop:∀ {xs:List V} {us:List Value} (n:Nat),Vals xs us→Vals (xs.drop n) (us.drop n)
 | _,_,0,r=>r
 | _,_,_+1,.nil=>.nil
 | _,_,n+1,.cons _ t=>Vals.drop n t
def jQ:Option V→Option Value→Prop
 | some v,some u=>RelV v u
 | none,none=>True
 | _,_=>False
def KV {κ:Type}:List (κ×V)→List (κ×Value)→Prop:=Paired fun (p:κ×V) (q:κ×Value)=>p.1=q.1∧RelV p.2 q.2
def kV:Key→V
 | .inl i=>.int i
 | .inr x=>.str x
inductive HO where
 | lst (xs:List V)
 | tup (xs:List V)
 | dK (aZ:List (Key×V)) | dT (aZ:List (List Key×V))
 | set (S:Int→Bool) (n:Nat)
 | ins (C dx:Addr) (fs:List (Str×V))
 | own (x:Addr)
 | xd (fs:List (Str×V))
 | met (f x:Addr)
 | Q7 (lo hi:Int)
 | ue (o:Obj) (u:HO)
 | Ih (ps:Array Value)
 | ext (φ:Heap→Prop)
abbrev Hp:=Addr→Option HO
def upd (H:Hp) (a:Addr) (o:HO):Hp:=fun b=>if b=a then some o else H b
theorem aT {H:Hp} {a:Addr} {o:HO}:upd H a o a=some o:=by unfold upd; rw [if_pos rfl]
theorem aE {H:Hp} {a b:Addr} {o:HO} (h:b≠a):upd H a o b=H b:=by unfold upd; rw [if_neg h]
theorem Fc {H:Hp} {a:Addr} {o u:HO}:upd (upd H a o) a u=upd H a u:=by
 funext b; unfold upd; split <;> rfl
theorem Ii {H:Hp} {a b:Addr} {o u:HO} (h:H a=some o) (h':H b=some u) (d:o≠u):a≠b:=by
 intro e; subst e; rw [h] at h'; exact d (Option.some.inj h')
theorem aW {H:Hp} {a b:Addr} {o:HO} (h:H a=some o) (h':H b=none):a≠b:=by
 intro e; subst e; rw [h] at h'; cases h'
section
variable (P:Program) (w:World)
def bP (H:Hp) (h:Heap) (a:Addr):HO→Prop
 | .lst xs=>xs.length≤sizeLine∧∃ (aP:List Value) (n:Nat),Vals xs aP∧h.get? a=some { cls:=.type "list",data:=.seq aP.toArray n }
 | .tup xs=>xs.length≤sizeLine∧∃ aP:List Value,Vals xs aP∧IsTup h a aP.toArray
 | .dK aZ=>aZ.length≤sizeLine∧(a == sysModules)=false∧∃ vs,KV aZ vs∧h.DictOf (bB P w) a vs
 | .dT aZ=>aZ.length≤sizeLine∧(a == sysModules)=false∧∃ xs:List (List Key×Addr×Value),
    Paired (fun (p:List Key×V) (q:List Key×Addr×Value)=>p.1=q.1∧H q.2.1=some (.tup (p.1.map kV))∧RelV p.2 q.2.2) aZ xs ∧
    ∃ o es ep,h.get? a=some o∧o.ExactDict∧o.data = .dict es ep∧es.toList=xs.map (entryOfKey (tupleKind (bB P w)))∧(xs.map (·.1)).Nodup
 | .set S n=>h.SetOf (intKind P w) a S n
 | .ins C dx fs=>H dx=some (.own a)∧fs.length≤1000∧dx≠a∧h.get? a=some (PySem.W.instObj C dx) ∧
    ∃ mA,h.Ns1 dx mA∧(∀ f,jQ (fs.lookup f) (mA f))∧PySem.Within mA (fs.map (·.1))
 | .own _=>∃ o,h.get? a=some o
 | .xd fs=>∃ mA,h.Ns1 a mA∧∀ f,jQ (fs.lookup f) (mA f)
 | .Q7 lo hi=>∃ t u v,h.get? a=some { cls:=.type "range",data:=.fields #[.int lo t,.int hi u,.int 1 v] }
 | .ue o u=>h.get? a=some o∧bP H h a u
 | .Ih ps=>h.get? a=some { cls:=.none,data:=.fields ps }
 | .met f x=>h.get? a=some (PySem.W.methodObj (.ref f) (.ref x))
 | .ext φ=>φ h∧(∃ o,h.get? a=some o)∧∀ h1 h2:Heap,φ h1→(∀ o,h1.get? a=some o→h2.get? a=some o)→φ h2
def jD (H:Hp) (h:Heap):Prop:=∀ a o,H a=some o→bP P w H h a o
end
section
variable {P:Program} {w:World} {H H':Hp} {h h':Heap} {a:Addr} {o:HO}
theorem bP.lt (x:bP P w H h a o):a < h.objs.size:=by
 cases o with
 | lst xs=>obtain ⟨_,_,_,_,e⟩:=x; exact dG e
 | tup xs=>obtain ⟨_,_,_,p⟩:=x; exact p.lt
 | dK aZ=>obtain ⟨_,_,_,_,o,_,_,e,_⟩:=x; exact dG e
 | dT aZ=>obtain ⟨_,_,_,_,o,_,_,e,_⟩:=x; exact dG e
 | set S n=>obtain ⟨o,_,_,_,e,_⟩:=x; exact dG e
 | ins C dx fs=>obtain ⟨_,_,_,e,_⟩:=x; exact dG e
 | own y=>obtain ⟨_,e⟩:=x; exact dG e
 | xd fs=>obtain ⟨_,⟨_,_,_,e,_⟩,_⟩:=x; exact dG e
 | Q7 lo hi=>obtain ⟨_,_,_,e⟩:=x; exact dG e
 | ue ob u=>obtain ⟨e,_⟩:=x; exact dG e
 | Ih ps=>exact dG (show h.get? a=some _ from x)
 | met f y=>exact dG (show h.get? a=some _ from x)
 | ext φ=>obtain ⟨_,⟨_,e⟩,_⟩:=x; exact dG e
theorem Paired.mY {α β:Type} {F G:α→β→Prop}:∀ {l₁:List α} {l₂:List β},Paired F l₁ l₂→(∀ a b,F a b→G a b)→Paired G l₁ l₂
 | _,_,.nil,_=>.nil
 | _,_,.cons r t,f=>.cons (f _ _ r) (Paired.mY t f)
theorem bP.mZ (x:bP P w H h a o) (k:∀ b u,(b=a∨H b=some (.own a))→h.get? b=some u→h'.get? b=some u)
  (ho:∀ b,H b=some (.own a)→H' b=some (.own a)) (ht:∀ b xs,H b=some (.tup xs)→H' b=some (.tup xs)):bP P w H' h' a o:=by
 induction o with
 | lst xs=>obtain ⟨z,aP,n,r,e⟩:=x; exact ⟨z,aP,n,r,k _ _ (.inl rfl) e⟩
 | tup xs=>obtain ⟨z,aP,r,ob,e,c⟩:=x; exact ⟨z,aP,r,ob,k _ _ (.inl rfl) e,c⟩
 | dK aZ=>obtain ⟨z,y,vs,r,ob,es,ep,e,c⟩:=x; exact ⟨z,y,vs,r,ob,es,ep,k _ _ (.inl rfl) e,c⟩
 | dT aZ =>
   obtain ⟨z,y,xs,r,ob,es,ep,e,c⟩:=x
   exact ⟨z,y,xs,Paired.mY r fun p q z=>⟨z.1,ht _ _ z.2.1,z.2.2⟩,ob,es,ep,k _ _ (.inl rfl) e,c⟩
 | set S n=>obtain ⟨ob,es,ep,t,e,c⟩:=x; exact ⟨ob,es,ep,t,k _ _ (.inl rfl) e,c⟩
 | ins C dx fs =>
   obtain ⟨d,z,ne,e,mA,⟨od,es,ep,e2,c⟩,r⟩:=x
   exact ⟨ho _ d,z,ne,k _ _ (.inl rfl) e,mA,⟨od,es,ep,k _ _ (.inr d) e2,c⟩,r⟩
 | own y=>obtain ⟨ob,e⟩:=x; exact ⟨ob,k _ _ (.inl rfl) e⟩
 | xd fs=>obtain ⟨mA,⟨od,es,ep,e,c⟩,r⟩:=x; exact ⟨mA,⟨od,es,ep,k _ _ (.inl rfl) e,c⟩,r⟩
 | Q7 lo hi=>obtain ⟨t,u,v,e⟩:=x; exact ⟨t,u,v,k _ _ (.inl rfl) e⟩
 | ue ob u ih=>obtain ⟨e,q⟩:=x; exact ⟨k _ _ (.inl rfl) e,ih q⟩
 | Ih ps =>
   have e:h.get? a=some { cls:=.none,data:=.fields ps }:=x
   show h'.get? a=some { cls:=.none,data:=.fields ps }
   exact k a _ (.inl rfl) e
 | met f y =>
   have e:h.get? a=some (PySem.W.methodObj (.ref f) (.ref y)):=x
   show h'.get? a=some (PySem.W.methodObj (.ref f) (.ref y))
   exact k a _ (.inl rfl) e
 | ext φ=>obtain ⟨p,⟨o,e⟩,st⟩:=x; exact ⟨st _ _ p fun o q=>k _ _ (.inl rfl) q,⟨o,k _ _ (.inl rfl) e⟩,st⟩
theorem jD.lt (x:jD P w H h) (e:H a=some o):a < h.objs.size:=(x a o e).lt
theorem jD.fresh (x:jD P w H h) (e:h.objs.size≤a):H a=none:=by
 cases q:H a with
 | none=>rfl
 | some u=>exact absurd (nF (x.lt q) e) (EM _)
theorem jD.kept (x:jD P w H h) (k:∀ b u,h.get? b=some u→h'.get? b=some u):jD P w H h':=fun a o e =>
 (x a o e).mZ (fun b u _ q=>k b u q) (fun _ q=>q) fun _ _ q=>q
theorem jD.laid (x:jD P w H h) (k:∀ b u,h.get? b=some u→h'.get? b=some u) (hp:h.objs.size≤a) (new:bP P w (upd H a o) h' a o):jD P w (upd H a o) h':=fun b u e=>by
 have hn:=x.fresh hp
 by_cases hb:b=a
 · subst hb; rw [aT] at e; cases e; exact new
 · rw [aE hb] at e
   exact (x b u e).mZ (fun c v _ q=>k c v q) (fun c q=>by rw [aE (aW q hn)]; exact q) fun c xs q=>by rw [aE (aW q hn)]; exact q
end
def Rd (H:Hp) (a:Addr) (u:HO):Prop:=H a=some u∨∃ o,H a=some (.ue o u)
theorem Rd.of {H:Hp} {a:Addr} {u:HO} (h:H a=some u):Rd H a u:=.inl h
theorem Rd.ok {P:Program} {w:World} {H:Hp} {h:Heap} {a:Addr} {u:HO} (r:Rd H a u) (x:jD P w H h):bP P w H h a u:=by
 rcases r with r | ⟨o,r⟩
 · exact x a u r
 · obtain ⟨_,q⟩:=x a _ r
   exact q
def Nw:Option HO→Prop
 | some (.lst _)=>True
 | some (.dK _)=>True
 | some (.dT _)=>True
 | some (.set _ _)=>True
 | some (.ins _ _ _)=>True
 | some (.ext _)=>True
 | _=>False
section
variable {P:Program} {w:World} {H:Hp} {h h':Heap} {x e:Addr} {o':HO}
theorem jD.write (ok:jD P w H h) (mu:Nw (H x)) (he:e=x∨H e=some (.own x)) (k:∀ b u,b≠e→h.get? b=some u→h'.get? b=some u) (Ij:∃ u,h'.get? e=some u)
  (new:bP P w (upd H x o') h' x o'):jD P w (upd H x o') h':=fun b u q=>by
 have Nx:∀ c y,H c=some (.own y)→c≠x:=fun c y r z=>by subst z; rw [r] at mu; exact mu
 have R':∀ c xs,H c=some (.tup xs)→c≠x:=fun c xs r z=>by subst z; rw [r] at mu; exact mu
 by_cases hb:b=x
 · subst hb; rw [aT] at q; cases q; exact new
 · rw [aE hb] at q
   by_cases EN:b=e
   · have q':H b=some (.own x):=by
      rcases he with z | z
      · exact absurd (EN.trans z) hb
      · rw [EN]; exact z
     rw [q] at q'; cases q'
     obtain ⟨v,hv⟩:=Ij
     exact ⟨v,by rw [EN]; exact hv⟩
   · refine (ok b u q).mZ (fun c v hc r=>k c v ?_ r) (fun c r=>by rw [aE (Nx c b r)]; exact r) fun c xs r=>by rw [aE (R' c xs r)]; exact r
     rcases hc with rfl | hc
     · exact EN
     · rintro rfl
       rcases he with z | z
       · exact Nx c b hc z
       · rw [hc] at z; cases z; exact hb rfl
end
structure Un (fs ex:List Addr) (H H':Hp) (h h':Heap):Prop where
 keep:∀ b o,h.get? b=some o→H b=none→b∉fs→b∉ex→h'.get? b=some o
 slot:∀ b o,h.get? b=some o→H b=none→b∈fs→b∉ex→∃ sl,h'.get? b=some { o with slots:=sl }
 free:∀ b o,h.get? b=some o→H b=none→b∉ex→H' b=none
 there:∀ b o,h.get? b=some o→b∉ex→∃ o',h'.get? b=some o'
 iy:∀ b xs,H b=some (.tup xs)→H' b=some (.tup xs)
 gG:∀ b o u,H b=some (.ue o u)→H' b=some (.ue o u)
 iA:∀ b ps,H b=some (.Ih ps)→∃ more,H' b=some (.Ih (ps ++ more))
section
variable {fs Ny ex Sa:List Addr} {H H1 H2:Hp} {h h1 h2 h':Heap} {a x e:Addr} {o:HO}
theorem Un.any (u:Un fs ex H H1 h h1) {b:Addr} {ob:Obj} (q:h.get? b=some ob) (n:H b=none) (hx:b∉ex):∃ sl,h1.get? b=some { ob with slots:=sl }:=by
 by_cases hb:b∈fs
 · exact u.slot b ob q n hb hx
 · exact ⟨ob.slots,u.keep b ob q n hb hx⟩
theorem Un.trans (a:Un fs ex H H1 h h1) (b:Un fs ex H1 H2 h1 h2):Un fs ex H H2 h h2 where
 keep:=fun c ob q n hc hx=>b.keep c ob (a.keep c ob q n hc hx) (a.free c ob q n hx) hc hx
 slot:=fun c ob q n hc hx=>by
  obtain ⟨sl,e1⟩:=a.slot c ob q n hc hx
  obtain ⟨Sb,e2⟩:=b.slot c _ e1 (a.free c ob q n hx) hc hx
  exact ⟨Sb,e2⟩
 free:=fun c ob q n hx=>by
  obtain ⟨o',e1⟩:=a.there c ob q hx
  exact b.free c o' e1 (a.free c ob q n hx) hx
 there:=fun c ob q hx=>by
  obtain ⟨o',e1⟩:=a.there c ob q hx
  exact b.there c o' e1 hx
 iy:=fun c xs q=>b.iy c xs (a.iy c xs q)
 gG:=fun c ob xs q=>b.gG c ob xs (a.gG c ob xs q)
 iA:=fun c ps q=>by
  obtain ⟨m1,e1⟩:=a.iA c ps q
  obtain ⟨m2,e2⟩:=b.iA c _ e1
  exact ⟨m1 ++ m2,by rw [e2,Array.append_assoc]⟩
theorem Un.kept (k:∀ b u,h.get? b=some u→h'.get? b=some u):Un fs ex H H h h' :=
 ⟨fun b ob q _ _ _=>k b ob q,fun b ob q _ _ _=>⟨ob.slots,k b ob q⟩,fun _ _ _ n _=>n,fun b ob q _=>⟨ob,k b ob q⟩,fun _ _ q=>q,fun _ _ _ q=>q,fun _ ps q=>⟨#[],by rw [q]; simp⟩⟩
theorem Un.refl:Un fs ex H H h h:=Un.kept fun _ _ q=>q
theorem Un.laid (k:∀ b u,h.get? b=some u→h'.get? b=some u) (hp:h.objs.size≤a) (hn:H a=none):Un fs ex H (upd H a o) h h' where
 keep:=fun b u q _ _ _=>k b u q
 slot:=fun b u q _ _ _=>⟨u.slots,k b u q⟩
 free:=fun b u q n _=>by rw [aE (gF (nF (dG q) hp))]; exact n
 there:=fun b u q _=>⟨u,k b u q⟩
 iy:=fun b xs q=>by rw [aE (aW q hn)]; exact q
 gG:=fun b u xs q=>by rw [aE (aW q hn)]; exact q
 iA:=fun b ps q=>⟨#[],by rw [aE (aW q hn),q]; simp⟩
theorem Un.write (mu:Nw (H x)) (he:e=x∨H e=some (.own x)) (k:∀ b u,b≠e→h.get? b=some u→h'.get? b=some u) (Ij:∃ u,h'.get? e=some u):Un fs ex H (upd H x o) h h':=by
 have hx:∀ b,H b=none→b≠x:=fun b n z=>by subst z; rw [n] at mu; exact mu
 have hb:∀ b,H b=none→b≠e:=fun b n z=>by
  subst z
  rcases he with r | r
  · exact hx b n r
  · rw [n] at r; cases r
 have hm:∀ b u,H b=some u→¬ Nw (some u)→b≠x:=fun b u q nm z=>by subst z; rw [q] at mu; exact nm mu
 refine ⟨fun b u q n _ _=>k b u (hb b n) q,fun b u q n _ _=>⟨u.slots,k b u (hb b n) q⟩,fun b u q n _=>by rw [aE (hx b n)]; exact n,fun b u q _=>?_,
  fun b xs q=>by rw [aE (hm b _ q fun z=>z)]; exact q,fun b u xs q=>by rw [aE (hm b _ q fun z=>z)]; exact q,fun b ps q=>⟨#[],by rw [aE (hm b _ q fun z=>z),q]; simp⟩⟩
 by_cases EN:b=e
 · subst EN; exact Ij
 · exact ⟨u,k b u EN q⟩
theorem Un.mono (u:Un fs ex H H1 h h1) (hs:∀ b∈fs,b∈Ny) (hx:∀ b∈ex,b∈Sa):Un Ny Sa H H1 h h1 :=
 ⟨fun b ob q n hb he=>u.keep b ob q n (fun z=>hb (hs b z)) fun z=>he (hx b z),fun _ _ q n _ he=>u.any q n fun z=>he (hx _ z),fun b ob q n he=>u.free b ob q n fun z=>he (hx b z),fun b ob q he=>u.there b ob q fun z=>he (hx b z),u.iy,u.gG,u.iA⟩
end
def Q8 (h:Heap) (H:Hp):List Addr:=(List.range h.objs.size).filter fun a=>(H a).isSome
def rX (h:Heap) (H:Hp):Heap:=PySem.W.hideAll h (Q8 h H)
theorem zE (h:Heap) (H:Hp):(rX h H).objs.size=h.objs.size:=PySem.W.hideAll_size _ _
theorem BJ {h:Heap} {H:Hp} {b:Addr} {o:Obj} (e:h.get? b=some o) (n:H b=none):(rX h H).get? b=some o :=
 PySem.W.hideAll_get _ e fun hm=>by
  have q:(H b).isSome=true:=(EK.mp hm).2
  rw [n] at q; simp at q
theorem Fd {h:Heap} {H:Hp} {b:Addr} {o:Obj} (e:(rX h H).get? b=some o):h.get? b=some o∧H b=none:=by
 have e':h.get? b=some o:=PySem.W.of_hideAll (Q8 h H) e
 refine ⟨e',?_⟩
 cases q:H b with
 | none=>rfl
 | some x =>
   have hm:b∈Q8 h H:=EK.mpr ⟨zy.mpr (dG e'),by simp [q]⟩
   have z:(rX h H).get? b=none:=PySem.W.hideAll_none (Q8 h H) hm
   rw [z] at e; cases e
def Fe (g h:Heap) (L:Addr):List (Addr×Obj):=(List.range h.objs.size).filterMap fun a=>if a=L∨(g.get? a).isSome=true then none else (h.get? a).map fun o=>(a,o)
def rest (g h:Heap) (L d:Addr):List (Addr×Obj):=(Fe g h L).filter fun p=>decide (p.1≠d)
structure Mod (K:PySem.W.Frag) (mg:Str→Option Value) (base:Heap):Prop where
 M5:K.In base
 glob:base.Ns mainGlobals mg
 blt:∃ mb,base.Ns builtinsNs mb∧∀ x:Str,x≠"__name__"→mb x=bootBuiltins x
 nolimit:base.NoLimit
structure Cx where
 prog:Program
 w:World
 K:PySem.W.Frag
 mg:Str→Option Value
 base:Heap
 A:Around
 N:List Str
 s₀:Shared
 H₀:Hp
 env:Env
 outer:List Env
 stack:List Env
 ex:List Addr
 fn:Str→Bool
 calm:Bool
 pn:List (Addr×Obj)
 xe:Value→Shared→Prop
def kn (l:List Env):List Addr:=l.filterMap (·.frame)
abbrev Cx.fs (X:Cx):List Addr:=kn X.outer
def rY (sc:Scope) (x:Str):Prop:=sc.names.lookup x=some .local∨sc.names.lookup x=some .cell∨sc.names.lookup x=some .free
def Loc (sc:Scope) (x:Str):Prop:=sc.names.lookup x=some .local∨sc.names.lookup x=some .cell
def Look (env:Env) (h:Heap) (m:Str→Option Value) (x:Str) (u:Value):Prop :=
 (env.kindOf x=some .local∧m x=some u)∨((env.kindOf x=some .cell∨env.kindOf x=some .free)∧∃ c,env.cells.lookup x=some c∧h.IsCell c (some u))
structure Cx.Ok (X:Cx):Prop where
 mod:Mod X.K X.mg X.base
 kind:X.env.scope.kind = .function
 glob:X.env.globals=mainGlobals
 blt:X.env.builtins=builtinsNs
 above:X.s₀.heap.objs.size≤X.env.locals
 inj:∀ x y c,X.env.cells.lookup x=some c→X.env.cells.lookup y=some c→x=y
 has:∀ x,(X.env.kindOf x=some .cell∨X.env.kindOf x=some .free)→∃ c,X.env.cells.lookup x=some c
 M6:∀ x c,X.fn x=true→X.env.cells.lookup x=some c→X.s₀.heap.objs.size≤c
 hd:X.calm=true→X.A.handled=none
 frames:X.A.frames=some X.stack
 Nz:X.stack=X.outer∨(X.stack=X.env :: X.outer∧X.env.frame=some X.env.locals)
 Sd:∀ b∈X.ex,b≠X.env.locals∧∀ x c,X.env.cells.lookup x=some c→c≠b
 bs:∀ b o,X.base.get? b=some o→X.s₀.heap.get? b=some o∧X.H₀ b=none
 Bv:X.base.objs.size≤X.s₀.heap.objs.size
 zF:∀ b o,X.base.get? b=some o→b∉X.ex
 BK:∀ b∈X.ex,b∉X.fs
 ko:X.s₀.heap.FunFrames X.base X.outer
 Ff:∀ b∈X.fs,X.H₀ b=none
structure Inv (X:Cx) (pins:List (Addr×Obj)) (σ:List (Option V)) (H:Hp) (s:Shared):Prop where
 ok:X.Ok
 os:s.os=X.s₀.os
 bare:AllBare s.gens
 base:Un X.fs X.ex X.H₀ H X.s₀.heap s.heap
 loc:∃ m,s.heap.Ns X.env.locals m∧∀ (i:Nat) (x:Str) (v:V),X.N[i]?=some x→σ[i]?=some (some v)→rY X.env.scope x→∃ u,RelV v u∧Look X.env s.heap m x u
 cell:∀ x c,X.env.cells.lookup x=some c→∃ v,s.heap.IsCell c v
 free:H X.env.locals=none
 d9:∀ x c,X.env.cells.lookup x=some c→H c=none
 pin:∀ p∈X.pn ++ pins,s.heap.get? p.1=some p.2∧H p.1=none∧p.1≠X.env.locals∧p.1∉X.fs∧∀ v,p.2.data≠.cell v
 bC:jD X.prog X.w H s.heap
 len:σ.length=X.N.length
section
variable {X:Cx} {pins:List (Addr×Obj)} {σ:List (Option V)} {H H':Hp} {s:Shared} {h':Heap}
theorem Cx.Ok.Fg (ok:X.Ok) {b:Addr} {o:Obj} (e:X.base.get? b=some o):b∉X.fs:=fun hb=>by
 have:=(ok.ko.mem hb).1
 rw [e] at this; cases this
theorem Inv.bs (I:Inv X pins σ H s):∀ b o,X.base.get? b=some o→s.heap.get? b=some o∧H b=none:=fun b o e =>
 ⟨I.base.keep b o (I.ok.bs b o e).1 (I.ok.bs b o e).2 (I.ok.Fg e) (I.ok.zF b o e),I.base.free b o (I.ok.bs b o e).1 (I.ok.bs b o e).2 (I.ok.zF b o e)⟩
theorem Inv.bk (I:Inv X pins σ H s):∀ b o,X.base.get? b=some o→s.heap.get? b=some o:=fun b o e=>(I.bs b o e).1
theorem Inv.mod (I:Inv X pins σ H s):Mod X.K X.mg X.base:=I.ok.mod
theorem Inv.lq (I:Inv X pins σ H s):X.K.In s.heap:=I.ok.mod.M5.keeps I.bk
theorem Inv.nolimit (I:Inv X pins σ H s):s.heap.NoLimit:=I.ok.mod.nolimit.keeps I.bk
theorem Inv.fr (I:Inv X pins σ H s):∃ m,Fr X.base X.env.locals s.heap m :=
 let ⟨m,hn,_⟩:=I.loc
 ⟨m,hn,I.bk,mD I.ok.Bv I.ok.above⟩
theorem Inv.lt (I:Inv X pins σ H s):X.env.locals < s.heap.objs.size:=let ⟨_,hn,_⟩:=I.loc; hn.lt
theorem Inv.sz (I:Inv X pins σ H s):X.s₀.heap.objs.size≤s.heap.objs.size:=mD I.ok.above (Nat.le_of_lt I.lt)
theorem Inv.Se (I:Inv X pins σ H s) {a:Addr} (h:s.heap.objs.size≤a):a∉X.fs:=fun hb=>by
 obtain ⟨_,o,ho,_⟩:=I.ok.ko.mem hb
 exact absurd (nF (dG ho) (mD I.sz h)) (EM _)
theorem Inv.BL (I:Inv X pins σ H s):∀ x c,X.env.cells.lookup x=some c→c≠X.env.locals:=fun x c e z=>by
 obtain ⟨v,o,ho,hd⟩:=I.cell x c e
 obtain ⟨m,⟨o',es,ep,we,WW,_⟩,_⟩:=I.loc
 rw [z,we] at ho; cases ho; rw [WW] at hd; cases hd
theorem Inv.ko (I:Inv X pins σ H s):s.heap.FunFrames X.base X.outer:=by
 have all:∀ (l:List Env),(∀ b∈kn l,b∈X.fs)→X.s₀.heap.FunFrames X.base l→s.heap.FunFrames X.base l:=by
  intro l
  induction l with
  | nil=>intro _ _; trivial
  | cons env r ih =>
    intro hs hl
    obtain ⟨hk,⟨L,o,hf,hn,ho,hd⟩,hr⟩:=hl
    have hL:L∈X.fs:=hs L (by unfold kn; rw [nD,hf]; exact ij)
    obtain ⟨sl,e⟩:=I.base.slot L o ho (I.ok.Ff L hL) hL fun z=>I.ok.BK L z hL
    exact ⟨hk,⟨L,_,hf,hn,e,hd⟩,ih (fun b hb=>hs b (by unfold kn; rw [nD,hf]; exact jC _ hb)) hr⟩
 exact all X.outer (fun _ hb=>hb) I.ok.ko
theorem Inv.stack (I:Inv X pins σ H s):s.heap.FunFrames X.base X.stack:=by
 rcases I.ok.Nz with e | ⟨e,hf⟩
 · rw [e]; exact I.ko
 · rw [e]
   obtain ⟨m,hn,_⟩:=I.loc
   refine .cons (by rw [I.ok.kind]; decide) hf hn ?_ I.ko
   exact Nt (mD I.ok.Bv I.ok.above)
theorem Inv.wg (I:Inv X pins σ H s):∀ b∈kn X.stack,b∈X.env.locals :: X.fs:=fun b hb=>by
 rcases I.ok.Nz with e | ⟨e,hf⟩
 · rw [e] at hb; exact jC _ hb
 · rw [e] at hb
   unfold kn at hb
   rw [nD,hf] at hb
   exact hb
theorem Inv.nG (I:Inv X pins σ H s):∀ b∈kn X.stack,H b=none:=fun b hb=>by
 rcases dD.mp (I.wg b hb) with e | hb
 · rw [e]; exact I.free
 · obtain ⟨_,o,ho,_⟩:=I.ok.ko.mem hb
   exact I.base.free b o ho (I.ok.Ff b hb) fun z=>I.ok.BK b z hb
theorem Inv.step {g':Array GenState} {t':Nat} {d':Drawn} {ch:List Addr} (I:Inv X pins σ H s)
  (EO:∀ b∈ch,(b∈X.ex∨X.s₀.heap.objs.size≤b)∧b≠X.env.locals∧(∀ x c,X.env.cells.lookup x=some c→c≠b)∧∀ p∈X.pn ++ pins,p.1≠b)
  (keep:∀ b o,b≠X.env.locals→b∉X.fs→b∉ch→s.heap.get? b=some o→H b=none→h'.get? b=some o)
  (slot:∀ b o,b≠X.env.locals→b∈X.fs→b∉ch→s.heap.get? b=some o→H b=none→∃ sl,h'.get? b=some { o with slots:=sl }) (free:∀ b o,b∉ch→s.heap.get? b=some o→H b=none→H' b=none)
  (there:∀ b o,b∉ch→s.heap.get? b=some o→∃ o',h'.get? b=some o')
  (iy:∀ b xs,H b=some (.tup xs)→H' b=some (.tup xs)) (gG:∀ b o u,H b=some (.ue o u)→H' b=some (.ue o u)) (iA:∀ b ps,H b=some (.Ih ps)→∃ more,H' b=some (.Ih (ps ++ more)))
  (ns:∀ m,s.heap.Ns X.env.locals m→h'.Ns X.env.locals m) (bC:jD X.prog X.w H' h') (hg:AllBare g') :
  Inv X pins σ H' { s with heap:=h',gens:=g',drawn:=d',toks:=t' }:=by
 have VF:∀ b o,X.s₀.heap.get? b=some o→b≠X.env.locals:=fun b o e=>gF (nF (dG e) I.ok.above)
 have Q9:∀ b o,X.s₀.heap.get? b=some o→b∉X.ex→b∉ch:=fun b o e hx hb=>by
  rcases (EO b hb).1 with z | z
  · exact hx z
  · exact absurd (nF (dG e) z) (EM _)
 have cellK:∀ x c,X.env.cells.lookup x=some c→∀ v,s.heap.IsCell c v→h'.IsCell c v:=fun x c e v ⟨o,ho,hd⟩=>by
  have BM:c∉ch:=fun z=>(EO c z).2.2.1 x c e rfl
  by_cases hc:c∈X.fs
  · obtain ⟨sl,q⟩:=slot c o (I.BL x c e) hc BM ho (I.d9 x c e)
    exact ⟨_,q,hd⟩
  · exact ⟨o,keep c o (I.BL x c e) hc BM ho (I.d9 x c e),hd⟩
 refine ⟨I.ok,I.os,hg,⟨fun b o e n hb hx=>?_,fun b o e n hb hx=>?_,fun b o e n hx=>?_,fun b o e hx=>?_,fun b xs e=>iy b xs (I.base.iy b xs e),fun b o xs e=>gG b o xs (I.base.gG b o xs e),fun b ps e=>?_⟩,?_,fun x c e=>?_,?_,fun x c e=>?_,fun p hp=>?_,bC,I.len⟩
 · exact keep b o (VF b o e) hb (Q9 b o e hx) (I.base.keep b o e n hb hx) (I.base.free b o e n hx)
 · obtain ⟨sl,e1⟩:=I.base.slot b o e n hb hx
   obtain ⟨Sb,e2⟩:=slot b _ (VF b o e) hb (Q9 b o e hx) e1 (I.base.free b o e n hx)
   exact ⟨Sb,e2⟩
 · obtain ⟨o',e1⟩:=I.base.there b o e hx
   exact free b o' (Q9 b o e hx) e1 (I.base.free b o e n hx)
 · obtain ⟨o',e1⟩:=I.base.there b o e hx
   exact there b o' (Q9 b o e hx) e1
 · obtain ⟨m1,e1⟩:=I.base.iA b ps e
   obtain ⟨m2,e2⟩:=iA b _ e1
   exact ⟨m1 ++ m2,by rw [e2,Array.append_assoc]⟩
 · obtain ⟨m,hn,hl⟩:=I.loc
   refine ⟨m,ns m hn,fun i x v e1 e2 e3=>?_⟩
   obtain ⟨u,r,l⟩:=hl i x v e1 e2 e3
   refine ⟨u,r,?_⟩
   rcases l with l | ⟨k,c,e,z⟩
   · exact .inl l
   · exact .inr ⟨k,c,e,cellK x c e _ z⟩
 · obtain ⟨v,z⟩:=I.cell x c e
   exact ⟨v,cellK x c e v z⟩
 · obtain ⟨m,⟨o,_,_,ho,_⟩,_⟩:=I.loc
   exact free _ o (fun z=>(EO _ z).2.1 rfl) ho I.free
 · obtain ⟨v,o,ho,hd⟩:=I.cell x c e
   exact free c o (fun z=>(EO c z).2.2.1 x c e rfl) ho (I.d9 x c e)
 · obtain ⟨e,n,ne,nf,d⟩:=I.pin p hp
   have BM:p.1∉ch:=fun z=>(EO p.1 z).2.2.2 p hp rfl
   exact ⟨keep p.1 p.2 ne nf BM e n,free p.1 p.2 BM e n,ne,nf,d⟩
theorem Inv.un {t':Nat} (I:Inv X pins σ H s) (u:Un X.fs [] H H' s.heap h') (bC:jD X.prog X.w H' h'):Inv X pins σ H' { s with heap:=h',toks:=t' }:=by
 obtain ⟨m,⟨o,es,ep,ho,r⟩,_⟩:=id I.loc
 obtain ⟨sl,hL⟩:=u.any ho I.free (by simp)
 exact I.step (g':=s.gens) (d':=s.drawn) (ch:=[]) (fun _ z=>nomatch z) (fun b o _ hb _ e n=>u.keep b o e n hb (by simp)) (fun b o _ hb _ e n=>u.slot b o e n hb (by simp)) (fun b o _ e n=>u.free b o e n (by simp)) (fun b o _ e=>u.there b o e (by simp)) u.iy u.gG u.iA (fun m' hm=>by
  obtain ⟨o',Sf,Sg,we,r'⟩:=hm
  rw [ho] at we; cases we
  exact ⟨_,Sf,Sg,hL,r'⟩) bC I.bare
theorem Inv.call {g':Array GenState} {t':Nat} {d':Drawn} {ch:List Addr} (I:Inv X pins σ H s) (u:Un (kn X.stack) ch H H' s.heap h') (bC:jD X.prog X.w H' h') (hg:AllBare g')
  (EO:∀ b∈ch,(b∈X.ex∨X.s₀.heap.objs.size≤b)∧b≠X.env.locals∧(∀ x c,X.env.cells.lookup x=some c→c≠b)∧∀ p∈X.pn ++ pins,p.1≠b) :
  Inv X pins σ H' { s with heap:=h',gens:=g',drawn:=d',toks:=t' }:=by
 obtain ⟨m,⟨o,es,ep,ho,r⟩,_⟩:=id I.loc
 obtain ⟨sl,hL⟩:=u.any ho I.free fun z=>(EO _ z).2.1 rfl
 exact I.step (ch:=ch) EO (fun b o hL hb hc e n=>u.keep b o e n (fun z=>(dD.mp (I.wg b z)).elim hL hb) hc) (fun b o _ _ hc e n=>u.any e n hc) (fun b o hc e n=>u.free b o e n hc) (fun b o hc e=>u.there b o e hc) u.iy u.gG u.iA (fun m' hm=>by
  obtain ⟨o',Sf,Sg,we,r'⟩:=hm
  rw [ho] at we; cases we
  exact ⟨_,Sf,Sg,hL,r'⟩) bC hg
theorem Inv.turned {t':Nat} {it:Addr} (I:Inv X pins σ H s) (k:∀ b o,b≠it→s.heap.get? b=some o→h'.get? b=some o) (hn:H it=none) (hL:it≠X.env.locals)
  (h1:it∈X.ex∨X.s₀.heap.objs.size≤it) (h2:∀ x c,X.env.cells.lookup x=some c→c≠it) (h3:∀ p∈X.pn ++ pins,p.1≠it):Inv X pins σ H { s with heap:=h',toks:=t' }:=by
 have VH:∀ b u,H b=some u→b≠it:=fun b u e z=>by rw [z,hn] at e; cases e
 refine I.step (g':=s.gens) (d':=s.drawn) (ch:=[it]) (fun b hb=>?_) (fun b o _ _ hc e _=>k b o (fun z=>hc (by simp [z])) e) (fun b o _ _ hc e _=>⟨o.slots,k b o (fun z=>hc (by simp [z])) e⟩) (fun _ _ _ _ n=>n)
  (fun b o hc e=>⟨o,k b o (fun z=>hc (by simp [z])) e⟩) (fun _ _ e=>e) (fun _ _ _ e=>e) (fun b ps e=>⟨#[],by rw [e]; simp⟩) (fun m hm=>?_) (fun b u e=>?_) I.bare
 · have e:b=it:=by simpa using hb
   subst e
   exact ⟨h1,hL,h2,h3⟩
 · obtain ⟨o,es,ep,ho,r⟩:=hm
   exact ⟨o,es,ep,k _ o (Ne.symm hL) ho,r⟩
 · refine (I.bC b u e).mZ (fun c v hc q=>k c v ?_ q) (fun _ q=>q) fun _ _ q=>q
   rcases hc with z | z
   · rw [z]; exact VH b u e
   · exact VH c _ z
theorem Inv.tok (I:Inv X pins σ H s) (t:Nat):Inv X pins σ H { s with toks:=t }:=I.un (h':=s.heap) (t':=t) Un.refl I.bC
theorem Inv.kept {t':Nat} (I:Inv X pins σ H s) (k:∀ b u,s.heap.get? b=some u→h'.get? b=some u):Inv X pins σ H { s with heap:=h',toks:=t' }:=I.un (Un.kept k) (I.bC.kept k)
theorem Inv.laid {a:Addr} {o:HO} {t':Nat} (I:Inv X pins σ H s) (k:∀ b u,s.heap.get? b=some u→h'.get? b=some u) (hp:s.heap.objs.size≤a) (new:bP X.prog X.w (upd H a o) h' a o) :
 Inv X pins σ (upd H a o) { s with heap:=h',toks:=t' }:=I.un (Un.laid k hp (I.bC.fresh hp)) (I.bC.laid k hp new)
theorem Inv.write {x e:Addr} {o:HO} {t':Nat} (I:Inv X pins σ H s) (mu:Nw (H x)) (he:e=x∨H e=some (.own x)) (k:∀ b u,b≠e→s.heap.get? b=some u→h'.get? b=some u) (Ij:∃ u,h'.get? e=some u)
 (new:bP X.prog X.w (upd H x o) h' x o):Inv X pins σ (upd H x o) { s with heap:=h',toks:=t' }:=I.un (Un.write mu he k Ij) (I.bC.write mu he k Ij new)
theorem Inv.weak {σ':List (Option V)} (I:Inv X pins σ H s) (hl:σ'.length=σ.length) (w:∀ (i:Nat) v,σ'[i]?=some (some v)→σ[i]?=some (some v)):Inv X pins σ' H s :=
 ⟨I.ok,I.os,I.bare,I.base,let ⟨m,hn,Sh⟩:=I.loc; ⟨m,hn,fun i x v e1 e2 e3=>Sh i x v e1 (w i v e2) e3⟩,I.cell,I.free,I.d9,I.pin,I.bC,hl.trans I.len⟩
theorem Inv.yt {yu:List (Addr×Obj)} (I:Inv X pins σ H s) (h:∀ p∈yu,s.heap.get? p.1=some p.2∧H p.1=none∧p.1≠X.env.locals∧p.1∉X.fs∧∀ v,p.2.data≠.cell v):Inv X yu σ H s :=
 ⟨I.ok,I.os,I.bare,I.base,I.loc,I.cell,I.free,I.d9,fun p hp=>(iw.mp hp).elim (fun z=>I.pin p (ll _ z)) (h p),I.bC,I.len⟩
theorem nY {N:List Str} (hN:N.Nodup) {i j:Nat} {x:Str} (a:N[i]?=some x) (b:N[j]?=some x):i=j:=by
 obtain ⟨h1,e1⟩:=fH.mp a
 obtain ⟨h2,e2⟩:=fH.mp b
 exact (List.getElem_inj hN).mp (e1.trans e2.symm)
theorem qV {M:Model} {A:Around} {E:Value→Shared→Prop} {i:Nat} {x:Str} {v:V} {u:Value} {Q:Unit→Shared→Prop} (I:Inv X pins σ H s) (hN:X.N.Nodup) (hi:X.N[i]?=some x) (hx:Loc X.env.scope x) (r:RelV v u)
  (h:∀ s',Inv X pins (σ.set i (some v)) H s'→(∃ a,Heap.SameBut a s.heap s'.heap∧(a=X.env.locals∨X.env.cells.lookup x=some a))→Q () s') (hf:X.fn x=true∨X.env.scope.names.lookup x=some .local:=by first | exact .inl rfl | exact .inr rfl | assumption):wpAny M A (storeName X.env x u) Q E s:=by
 obtain ⟨m,hn,hl⟩:=id I.loc
 have JI:(X.env.scope.kind == .class || (X.env.scope.kind == .module && X.env.locals != X.env.globals))=false:=by rw [I.ok.kind]; rfl
 have Q_:i < σ.length:=by rw [I.len]; exact (fH.mp hi).1
 have BL:=I.BL
 have tracked:∀ {a:Addr} {h':Heap},(∃ o,s.heap.get? a=some o∧H a=none)→Heap.SameBut a s.heap h'→jD X.prog X.w H h':=fun {a h'} ha hs b ob e=>by
  obtain ⟨_,_,Ik⟩:=ha
  refine (I.bC b ob e).mZ (fun c w' hc q=>(hs.2 c ?_).trans q) (fun _ q=>q) fun _ _ q=>q
  rintro rfl
  rcases hc with rfl | hc
  · rw [Ik] at e; cases e
  · rw [Ik] at hc; cases hc
 rcases hx with hk | hk
 · refine wpAny_storeName_local hk hn (fun h' JJ hs=>?_) JI
   obtain ⟨oL,_,_,VJ,_⟩:=id hn
   refine h _ ⟨I.ok,I.os,I.bare,⟨fun b o e n hb hx=>?_,fun b o e n hb hx=>?_,I.base.free,fun b o e hx=>?_,I.base.iy,I.base.gG,I.base.iA⟩,⟨_,JJ,fun j y v' e1 e2 e3=>?_⟩,fun y c e=>?_,I.free,I.d9,fun p hp=>?_,tracked ⟨oL,VJ,I.free⟩ hs,by simpa using I.len⟩ ⟨_,hs,.inl rfl⟩
   · exact (hs.2 b (gF (nF (dG e) I.ok.above))).trans (I.base.keep b o e n hb hx)
   · obtain ⟨sl,e1⟩:=I.base.slot b o e n hb hx
     exact ⟨sl,(hs.2 b (gF (nF (dG e) I.ok.above))).trans e1⟩
   · obtain ⟨o',e1⟩:=I.base.there b o e hx
     exact ⟨o',(hs.2 b (gF (nF (dG e) I.ok.above))).trans e1⟩
   · by_cases hj:j=i
     · subst hj
       rw [hi] at e1; cases e1
       rw [yq Q_] at e2
       cases e2
       exact ⟨u,r,.inl ⟨hk,by simp⟩⟩
     · rw [uk (Ne.symm hj)] at e2
       obtain ⟨u',r',q⟩:=hl j y v' e1 e2 e3
       refine ⟨u',r',?_⟩
       rcases q with ⟨k,e⟩ | ⟨k,c,e,z⟩
       · refine .inl ⟨k,?_⟩
         have:y≠x:=fun e=>hj (nY hN e1 (e▸hi))
         simp [this,e]
       · exact .inr ⟨k,c,e,z.sameBut hs (BL y c e)⟩
   · obtain ⟨w',z⟩:=I.cell y c e
     exact ⟨w',z.sameBut hs (BL y c e)⟩
   · obtain ⟨e,n,ne,nf,d⟩:=I.pin p hp
     exact ⟨(hs.2 p.1 ne).trans e,n,ne,nf,d⟩
 · have Si:X.fn x=true:=by
    rcases hf with z | z
    · exact z
    · rw [z] at hk; cases hk
   obtain ⟨c,hc⟩:=I.ok.has x (.inl hk)
   obtain ⟨w',z⟩:=I.cell x c hc
   refine wpAny_storeName_cell I.ok.kind hk hc z (fun h' NA hs=>?_)
   obtain ⟨oc,VL,Sj⟩:=id z
   refine h { s with heap:=h' } ⟨I.ok,I.os,I.bare,⟨fun b o e n hb hx=>?_,fun b o e n hb hx=>?_,I.base.free,fun b o e hx=>?_,I.base.iy,I.base.gG,I.base.iA⟩,⟨m,hn.sameBut hs (Ne.symm (BL x c hc)),fun j y v' e1 e2 e3=>?_⟩,fun y c' e=>?_,I.free,I.d9,fun p hp=>?_,tracked ⟨oc,VL,I.d9 x c hc⟩ hs,by simpa using I.len⟩ ⟨c,hs,.inr hc⟩
   · exact (hs.2 b (gF (nF (dG e) (I.ok.M6 x c Si hc)))).trans (I.base.keep b o e n hb hx)
   · obtain ⟨sl,e1⟩:=I.base.slot b o e n hb hx
     exact ⟨sl,(hs.2 b (gF (nF (dG e) (I.ok.M6 x c Si hc)))).trans e1⟩
   · obtain ⟨o',e1⟩:=I.base.there b o e hx
     exact ⟨o',(hs.2 b (gF (nF (dG e) (I.ok.M6 x c Si hc)))).trans e1⟩
   · by_cases hj:j=i
     · subst hj
       rw [hi] at e1; cases e1
       rw [yq Q_] at e2
       cases e2
       exact ⟨u,r,.inr ⟨.inl hk,c,hc,NA⟩⟩
     · rw [uk (Ne.symm hj)] at e2
       obtain ⟨u',r',q⟩:=hl j y v' e1 e2 e3
       refine ⟨u',r',?_⟩
       rcases q with q | ⟨k,c',e,z'⟩
       · exact .inl q
       · refine .inr ⟨k,c',e,z'.sameBut hs ?_⟩
         rintro rfl
         exact hj (nY hN e1 (I.ok.inj _ _ _ e hc▸hi))
   · by_cases VM:c'=c
     · subst VM; exact ⟨_,NA⟩
     · obtain ⟨w2,z2⟩:=I.cell y c' e
       exact ⟨w2,z2.sameBut hs VM⟩
   · obtain ⟨e,n,ne,nf,d⟩:=I.pin p hp
     refine ⟨(hs.2 p.1 ?_).trans e,n,ne,nf,d⟩
     intro q
     rw [q,VL] at e
     have q':oc=p.2:=Option.some.inj e
     exact d w' (by rw [← q']; exact Sj)
theorem iG {M:Model} {A:Around} {E:Value→Shared→Prop} {i:Nat} {x:Str} {v:V} {u:Value} {Q:Unit→Shared→Prop} (I:Inv X pins σ H s) (hN:X.N.Nodup) (hi:X.N[i]?=some x) (hx:Loc X.env.scope x) (r:RelV v u)
  (h:∀ s',Inv X pins (σ.set i (some v)) H s'→Q () s') (hf:X.fn x=true∨X.env.scope.names.lookup x=some .local:=by first | exact .inl rfl | exact .inr rfl | assumption):wpAny M A (storeName X.env x u) Q E s :=
 qV I hN hi hx r (fun s' I' _=>h s' I') hf
theorem Inv.BN {s':Shared} {ch:List Addr} (I:Inv X pins σ H s) (ho:s'.os=s.os) (u:Un (kn X.stack) ch H H' s.heap s'.heap) (bC:jD X.prog X.w H' s'.heap) (hg:AllBare s'.gens)
  (EO:∀ b∈ch,(b∈X.ex∨X.s₀.heap.objs.size≤b)∧b≠X.env.locals∧(∀ x c,X.env.cells.lookup x=some c→c≠b)∧∀ p∈X.pn ++ pins,p.1≠b):Inv X pins σ H' s':=by
 obtain ⟨h',g',d',t',o'⟩:=s'
 have e:o'=s.os:=ho
 subst e
 exact I.call (g':=g') (t':=t') (d':=d') u bC hg EO
end
abbrev XK:=Value→Option Addr→Hp→Prop
abbrev St:=List (Option V)
abbrev VK:=V→Hp→Prop
abbrev TE:=St→Hp→VK→Prop
abbrev TT:=St→Hp→(Bool→Hp→Prop)→Prop
abbrev TA:=St→Hp→(List V→Hp→Prop)→Prop
structure Ends where
 nx:St→Hp→Prop
 rt:VK
 bk:St→Hp→Prop:=fun _ _=>False
 ct:St→Hp→Prop:=fun _ _=>False
abbrev TS:=Ends→St→Hp→Prop
def EP (X:Cx) (pins:List (Addr×Obj)) (σ:St) (Q:VK) (u:Value) (s':Shared):Prop:=∃ v H',Inv X pins σ H' s'∧RelV v u∧Q v H'
def TP (X:Cx) (pins:List (Addr×Obj)) (σ:St) (Q:Bool→Hp→Prop) (b:Bool) (s':Shared):Prop:=∃ H',Inv X pins σ H' s'∧Q b H'
def AP (X:Cx) (pins:List (Addr×Obj)) (σ:St) (Q:List V→Hp→Prop) (us:List Value) (s':Shared):Prop:=∃ vs H',Inv X pins σ H' s'∧Vals vs us∧Q vs H'
def SP (X:Cx) (pins:List (Addr×Obj)) (D:Ends) (f:Flow) (s':Shared):Prop :=
 match f with
 | .next=>∃ σ' H',Inv X pins σ' H' s'∧D.nx σ' H'
 | .brk=>∃ σ' H',Inv X pins σ' H' s'∧D.bk σ' H'
 | .cont=>∃ σ' H',Inv X pins σ' H' s'∧D.ct σ' H'
 | .ret u=>∃ v σ' H',Inv X pins σ' H' s'∧RelV v u∧D.rt v H'
def PE (X:Cx) (e:Expr) (t:TE):Prop :=
 ∀ (pins:List (Addr×Obj)) (s:Shared) (σ:St) (H:Hp) (Q:VK),Inv X pins σ H s→t σ H Q→wpAny (model X.prog X.w) X.A (eval e X.env) (EP X pins σ Q) X.xe s
def PT (X:Cx) (e:Expr) (t:TT):Prop :=
 ∀ (pins:List (Addr×Obj)) (s:Shared) (σ:St) (H:Hp) (Q:Bool→Hp→Prop),Inv X pins σ H s→t σ H Q→wpAny (model X.prog X.w) X.A (isTrue e X.env (eval e X.env)) (TP X pins σ Q) X.xe s
def PW (X:Cx) (e:Expr) (t:TT):Prop :=
 ∀ (whole:Sem Value) (pins:List (Addr×Obj)) (s:Shared) (σ:St) (H:Hp) (Q:Bool→Hp→Prop),Inv X pins σ H s→t σ H Q→wpAny (model X.prog X.w) X.A (isTrue e X.env whole) (TP X pins σ Q) X.xe s
theorem PW.pt {X:Cx} {e:Expr} {t:TT} (h:PW X e t):PT X e t:=h _
def PA (X:Cx) (es:List Expr) (t:TA):Prop :=
 ∀ (pos:Pos) (pins:List (Addr×Obj)) (s:Shared) (σ:St) (H:Hp) (Q:List V→Hp→Prop),Inv X pins σ H s→t σ H Q→wpAny (model X.prog X.w) X.A (spliced (backTo pos (starEach es X.env))) (AP X pins σ Q) X.xe s
def PS (X:Cx) (st:Stmt) (t:TS):Prop :=
 ∀ (pins:List (Addr×Obj)) (s:Shared) (σ:St) (H:Hp) (D:Ends),Inv X pins σ H s→t D σ H→wpAny (model X.prog X.w) X.A (exec st X.env) (SP X pins D) X.xe s
def nH (X:Cx) (st:List Stmt) (t:TS):Prop :=
 ∀ (pins:List (Addr×Obj)) (s:Shared) (σ:St) (H:Hp) (D:Ends),Inv X pins σ H s→t D σ H→wpAny (model X.prog X.w) X.A (execs st X.env) (SP X pins D) X.xe s
theorem bX {α:Type} {t:Sem α} {Q Q':α→Shared→Prop} {M:Model} {A:Around} {E:Value→Shared→Prop} {s:Shared} (h:wpAny M A t Q E s) (hQ:∀ a s,Q a s→Q' a s):wpAny M A t Q' E s:=wpAny_mono h hQ fun _ _ x=>x
section
variable {X:Cx}
def JK (i:Nat):TE:=fun σ H Q=>∃ v,σ[i]?=some (some v)∧Q v H
def tC (v:V):TE:=fun _ H Q=>Q v H
theorem cW {i:Nat} {x:Str} {pos:Pos} (hN:X.N[i]?=some x) (hv:rY X.env.scope x) (hd:gg x:=by decide) (iB:ug x:=by decide):PE X (.Name x pos) (JK i):=by
 intro pins s σ H Q I h
 obtain ⟨v,e,h⟩:=h
 obtain ⟨m,hn,hl⟩:=I.loc
 obtain ⟨u,r,l⟩:=hl i x v hN e hv
 have fin:EP X pins σ Q u s:=⟨v,H,I,r,h⟩
 rcases l with ⟨hk,hm⟩ | ⟨hk,c,hc,yw⟩
 · exact wpAny_Name (wpAny_loadName_local I.ok.kind hk hn hm fin) hd
 · rcases hk with hk | hk
   · exact wpAny_Name (wpAny_loadName_cell I.ok.kind hk hc yw fin) hd
   · exact wpAny_Name (wpAny_loadName_free I.ok.kind hk hc yw fin iB) hd
theorem JL {i j pos}:PE X (.Constant (.int i) j pos) (tC (.int i)):=fun _ _ _ H _ I h=>wpAny_Constant_int ⟨.int i,H,I.tok _,⟨_,rfl⟩,h⟩
theorem NB {b j pos}:PE X (.Constant (.bool b) j pos) (tC (.bl b)):=fun _ _ _ H _ I h=>Constant_bool ⟨.bl b,H,I,rfl,h⟩
theorem JM {j pos}:PE X (.Constant .none j pos) (tC .bu):=fun _ _ _ H _ I h=>Constant_none ⟨.bu,H,I,rfl,h⟩
theorem JN {x j pos}:PE X (.Constant (.str x) j pos) (tC (.str x)):=fun _ _ _ H _ I h=>Calls.Constant_str ⟨.str x,H,I.tok _,⟨_,rfl⟩,h⟩
def Gl (X:Cx) (x:Str):Prop:=X.env.kindOf x=some .globalImplicit
theorem jf {E:Value→Shared→Prop} {pins:List (Addr×Obj)} {s:Shared} {σ:St} {H:Hp} {x:Str} {u:Value} {pos:Pos} {Q:Value→Shared→Prop} (I:Inv X pins σ H s) (hg:Gl X x) (hm:X.mg x=some u) (h:Q u s)
  (hd:gg x:=by decide):wpAny (model X.prog X.w) X.A (eval (.Name x pos) X.env) Q E s :=
 Calls.Name_function_global I.ok.kind hg (Calls.loadGlobal_global (by rw [I.ok.glob]; exact I.mod.glob.keeps I.bk) hm h) hd
theorem jR {E:Value→Shared→Prop} {pins:List (Addr×Obj)} {s:Shared} {σ:St} {H:Hp} {x:Str} {u:Value} {pos:Pos} {Q:Value→Shared→Prop} (I:Inv X pins σ H s) (hg:Gl X x) (hm:X.mg x=none) (hv:bootBuiltins x=some u) (h:Q u s)
  (hn:x≠"__name__":=by decide) (hd:gg x:=by decide):wpAny (model X.prog X.w) X.A (eval (.Name x pos) X.env) Q E s:=by
 obtain ⟨mb,h1,h2⟩:=I.mod.blt
 exact Calls.Name_function_global I.ok.kind hg (Calls.loadGlobal_builtin (by rw [I.ok.glob]; exact I.mod.glob.keeps I.bk) hm (by rw [I.ok.blt]; exact h1.keeps I.bk) ((h2 x hn).trans hv) h) hd
theorem rZ {x:Str} {v:V} {u:Value} {pos:Pos} (hg:Gl X x) (hm:X.mg x=some u) (r:RelV v u) (hd:gg x:=by decide):PE X (.Name x pos) (tC v) :=
 fun _ _ _ H _ I h=>jf I hg hm ⟨v,H,I,r,h⟩ hd
theorem Fh {x:Str} {v:V} {u:Value} {pos:Pos} (hg:Gl X x) (hm:X.mg x=none) (hv:bootBuiltins x=some u) (r:RelV v u) (hn:x≠"__name__":=by decide) (hd:gg x:=by decide):PE X (.Name x pos) (tC v) :=
 fun _ _ _ H _ I h=>jR I hg hm hv ⟨v,H,I,r,h⟩ hn hd
variable {a b:Expr} {ta tb:TE} {pos:Pos}
def tB (t:TE):TT:=fun σ H Q=>t σ H fun x H1=>∃ c,x = .bl c∧Q c H1
theorem JO {e:Expr} {t:TE} (h:PE X e t) (he:∀ whole,isTrue e X.env whole=(do let v ← whole; standAt e.pos; holding [v] (truthy v)):=by intro _; rfl):PT X e (tB t):=by
 intro pins s σ H Q I hw
 refine isTrue_plain (bX (h pins s σ H _ I hw) fun v s1 ⟨x,H1,I1,r1,q1⟩=>?_) (he _)
 obtain ⟨d,rfl,q⟩:=q1
 cases r1
 exact wpAny_truthy_bool ⟨H1,I1,q⟩
variable {tA NC:TT} {rest:List Expr}
def Sk (t u:TT):TT:=fun σ H Q=>t σ H fun c H1=>if c=true then u σ H1 Q else Q false H1
def WX (t u:TT):TT:=fun σ H Q=>t σ H fun c H1=>if c=true then Q true H1 else u σ H1 Q
def Sl (t:TT):TT:=fun σ H Q=>t σ H fun c H1=>Q (!c) H1
theorem pw_and1 (ha:PT X a tA):PW X (.BoolOp .And [a] pos) tA:=by
 intro wh pins s σ H Q I h
 refine isTrue_and (bX (ha pins s σ H Q I h) fun c s1 e=>?_)
 cases c with
 | true=>exact isTrue_and_nil e
 | false=>exact e
theorem pw_or1 (ha:PT X a tA):PW X (.BoolOp .Or [a] pos) tA:=by
 intro wh pins s σ H Q I h
 refine isTrue_or (bX (ha pins s σ H Q I h) fun c s1 e=>?_)
 cases c with
 | false=>exact isTrue_or_nil e
 | true=>exact e
theorem pw_and (ha:PT X a tA) (hb:PW X (.BoolOp .And (b :: rest) pos) NC):PW X (.BoolOp .And (a :: b :: rest) pos) (Sk tA NC):=by
 intro wh pins s σ H Q I h
 refine isTrue_and (bX (ha pins s σ H _ I h) fun c s1 ⟨H1,I1,q1⟩=>?_)
 cases c with
 | true=>exact hb wh pins s1 σ H1 Q I1 q1
 | false=>exact ⟨H1,I1,q1⟩
theorem pw_or (ha:PT X a tA) (hb:PW X (.BoolOp .Or (b :: rest) pos) NC):PW X (.BoolOp .Or (a :: b :: rest) pos) (WX tA NC):=by
 intro wh pins s σ H Q I h
 refine isTrue_or (bX (ha pins s σ H _ I h) fun c s1 ⟨H1,I1,q1⟩=>?_)
 cases c with
 | true=>exact ⟨H1,I1,q1⟩
 | false=>exact hb wh pins s1 σ H1 Q I1 q1
theorem JP (ha:PT X a tA):PT X (.UnaryOp .Not a pos) (Sl tA):=by
 intro pins s σ H Q I h
 exact isTrue_not (ha pins s σ H (fun c H1=>Q (!c) H1) I h)
def ND (ta tb:TE):TE:=fun σ H Q=>ta σ H fun x H1=>∃ c,x = .bl c∧if c=true then tb σ H1 Q else Q (.bl false) H1
def Sm (ta tb:TE):TE:=fun σ H Q=>ta σ H fun x H1=>∃ c,x = .bl c∧if c=true then Q (.bl true) H1 else tb σ H1 Q
def NF (ta:TE):TE:=fun σ H Q=>ta σ H fun x H1=>∃ c,x = .bl c∧Q (.bl (!c)) H1
theorem JQ {op} {t:TE} (h:PE X a t):PE X (.BoolOp op [a] pos) t:=fun pins s σ H Q I hw=>BoolOp_one (h pins s σ H Q I hw)
theorem JR (ha:PE X a ta) (hb:PE X (.BoolOp .And (b :: rest) pos) tb):PE X (.BoolOp .And (a :: b :: rest) pos) (ND ta tb):=by
 intro pins s σ H Q I h
 refine BoolOp_and (bX (ha pins s σ H _ I h) fun v s1 ⟨x,H1,I1,r1,q1⟩=>?_)
 obtain ⟨c,rfl,q1⟩:=q1
 cases r1
 refine wpAny_truthy_bool ?_
 cases c with
 | true=>exact hb pins s1 σ H1 Q I1 q1
 | false=>exact ⟨.bl false,H1,I1,rfl,q1⟩
theorem NG (ha:PE X a ta) (hb:PE X (.BoolOp .Or (b :: rest) pos) tb):PE X (.BoolOp .Or (a :: b :: rest) pos) (Sm ta tb):=by
 intro pins s σ H Q I h
 refine BoolOp_or (bX (ha pins s σ H _ I h) fun v s1 ⟨x,H1,I1,r1,q1⟩=>?_)
 obtain ⟨c,rfl,q1⟩:=q1
 cases r1
 refine wpAny_truthy_bool ?_
 cases c with
 | false=>exact hb pins s1 σ H1 Q I1 q1
 | true=>exact ⟨.bl true,H1,I1,rfl,q1⟩
theorem JS (ha:PE X a ta):PE X (.UnaryOp .Not a pos) (NF ta):=by
 intro pins s σ H Q I h
 refine UnaryOp_ (bX (ha pins s σ H _ I h) fun v s1 ⟨x,H1,I1,r1,q1⟩=>?_)
 obtain ⟨c,rfl,q1⟩:=q1
 cases r1
 exact not_of (wpAny_truthy_bool ⟨.bl (!c),H1,I1,rfl,q1⟩)
end
def eJ (K:PySem.W.Frag) (H:Hp) (a:Addr) (xs:List V):Prop :=
 Rd H a (.lst xs) ∨
  ∃ (o:Obj) (aP:Array Value) (n:Nat),K.lookup a=some o∧o.cls = .type "list"∧o.dict=none∧o.data = .seq aP n∧aP.size≤sizeLine∧Vals xs aP.toList
def dF (K:PySem.W.Frag) (H:Hp) (a:Addr) (xs:List V):Prop :=
 Rd H a (.tup xs) ∨
  ∃ (o:Obj) (aP:Array Value) (n:Nat),K.lookup a=some o∧o.cls = .type "tuple"∧o.data = .seq aP n∧aP.size≤sizeLine∧Vals xs aP.toList
def Sn:Value→Option V
 | .none=>some .bu
 | .bool b=>some (.bl b)
 | .int i _=>some (.int i)
 | .str x _=>some (.str x)
 | .bytes b _=>some (.Vz b)
 | .float b _=>some (.VB b)
 | .ref a=>some (.ref a)
 | .type n=>some (.ty n)
 | _=>none
theorem RelV.abs {x:V} {u:Value} (r:RelV x u):Sn u=some x:=by
 cases x with
 | bu=>cases r; rfl
 | bl _=>cases r; rfl
 | ref _=>cases r; rfl
 | ty _=>cases r; rfl
 | _=>obtain ⟨t,rfl⟩:=r; rfl
theorem RelV.inj {x y:V} {u:Value} (r:RelV x u) (q:RelV y u):x=y:=Option.some.inj (r.abs.symm.trans q.abs)
theorem Vals.inj:∀ {xs ys:List V} {us:List Value},Vals xs us→Vals ys us→xs=ys
 | _,_,_,.nil,.nil=>rfl
 | _,_,_,.cons r t,.cons r' t'=>by rw [r.inj r',Vals.inj t t']
section
variable {X:Cx} {pins:List (Addr×Obj)} {σ:St} {H:Hp} {s:Shared} {a:Addr} {xs ys:List V}
theorem eJ.of {K:PySem.W.Frag} (h:H a=some (.lst xs)):eJ K H a xs:=.inl (.inl h)
theorem dF.of {K:PySem.W.Frag} (h:H a=some (.tup xs)):dF K H a xs:=.inl (.inl h)
theorem Inv.list (I:Inv X pins σ H s) (h:eJ X.K H a xs):∃ aP:List Value,Vals xs aP∧PlainL s.heap a aP.toArray∧xs.length≤sizeLine:=by
 rcases h with h | ⟨o,aP,n,hk,hc,hd,hs,hz,r⟩
 · obtain ⟨z,aP,n,r,e⟩:=h.ok I.bC
   exact ⟨aP,r,⟨_,n,e,rfl,rfl,rfl⟩,z⟩
 · refine ⟨aP.toList,r,⟨o,n,I.lq a o hk,hc,hd,by simpa using hs⟩,?_⟩
   have e:=r.length
   simp only [MV] at e
   omega
theorem Inv.tuple (I:Inv X pins σ H s) (h:dF X.K H a xs):∃ aP:List Value,Vals xs aP∧IsTup s.heap a aP.toArray∧xs.length≤sizeLine:=by
 rcases h with h | ⟨o,aP,n,hk,hc,hs,hz,r⟩
 · obtain ⟨z,aP,r,p⟩:=h.ok I.bC
   exact ⟨aP,r,p,z⟩
 · refine ⟨aP.toList,r,⟨o,I.lq a o hk,hc,n,by simpa using hs⟩,?_⟩
   have e:=r.length
   simp only [MV] at e
   omega
theorem Inv.kq (I:Inv X pins σ H s) (h:eJ X.K H a xs) (h':eJ X.K H a ys):xs=ys:=by
 obtain ⟨aP,r,⟨o,n,e,_,_,d⟩,_⟩:=I.list h
 obtain ⟨its',r',⟨o',n',e',_,_,d'⟩,_⟩:=I.list h'
 rw [e] at e'; cases e'
 rw [d] at d'
 injection d' with d1 _
 have:aP=its':=by simpa using congrArg Array.toList d1
 subst this
 exact r.inj r'
theorem Inv.lC (I:Inv X pins σ H s) (h:dF X.K H a xs) (h':dF X.K H a ys):xs=ys:=by
 obtain ⟨aP,r,⟨o,e,_,n,d⟩,_⟩:=I.tuple h
 obtain ⟨its',r',⟨o',e',_,n',d'⟩,_⟩:=I.tuple h'
 rw [e] at e'; cases e'
 rw [d] at d'
 injection d' with d1 _
 have:aP=its':=by simpa using congrArg Array.toList d1
 subst this
 exact r.inj r'
end
abbrev Cx.iH (X:Cx) (E:Value→Shared→Prop):Cx:={ X with xe:=E }
abbrev Cx.nI (X:Cx):Cx:=X.iH fun _ _=>False
theorem Cx.Ok.iH {X:Cx} (ok:X.Ok) (E:Value→Shared→Prop):(X.iH E).Ok :=
 ⟨ok.mod,ok.kind,ok.glob,ok.blt,ok.above,ok.inj,ok.has,ok.M6,ok.hd,ok.frames,ok.Nz,ok.Sd,ok.bs,ok.Bv,ok.zF,ok.BK,ok.ko,ok.Ff⟩
theorem Cx.Ok.fN {X:Cx} {E:Value→Shared→Prop} (ok:(X.iH E).Ok):X.Ok :=
 ⟨ok.mod,ok.kind,ok.glob,ok.blt,ok.above,ok.inj,ok.has,ok.M6,ok.hd,ok.frames,ok.Nz,ok.Sd,ok.bs,ok.Bv,ok.zF,ok.BK,ok.ko,ok.Ff⟩
section
variable {X:Cx} {pins:List (Addr×Obj)} {σ:St} {H:Hp} {s:Shared} {E:Value→Shared→Prop}
theorem Inv.iH (I:Inv X pins σ H s) (E:Value→Shared→Prop):Inv (X.iH E) pins σ H s:=⟨I.ok.iH E,I.os,I.bare,I.base,I.loc,I.cell,I.free,I.d9,I.pin,I.bC,I.len⟩
theorem Inv.fN (I:Inv (X.iH E) pins σ H s):Inv X pins σ H s:=⟨I.ok.fN,I.os,I.bare,I.base,I.loc,I.cell,I.free,I.d9,I.pin,I.bC,I.len⟩
theorem SP.fN {D:Ends} {f:Flow} {s':Shared} (h:SP (X.iH E) pins D f s'):SP X pins D f s':=by
 cases f with
 | ret u=>obtain ⟨v,σ',H',I,r,q⟩:=h; exact ⟨v,σ',H',I.fN,r,q⟩
 | _=>obtain ⟨σ',H',I,q⟩:=h; exact ⟨σ',H',I.fN,q⟩
theorem PE.nI {e:Expr} {t:TE} (h:PE X.nI e t):PE X e t:=fun pins s σ H Q I hw =>
 wpAny_mono (h pins s σ H Q (I.iH _) hw) (fun _ _ ⟨v,H',I',r,q⟩=>⟨v,H',I'.fN,r,q⟩) fun _ _ z=>False.elim z
theorem PT.nI {e:Expr} {t:TT} (h:PT X.nI e t):PT X e t:=fun pins s σ H Q I hw =>
 wpAny_mono (h pins s σ H Q (I.iH _) hw) (fun _ _ ⟨H',I',q⟩=>⟨H',I'.fN,q⟩) fun _ _ z=>False.elim z
theorem nH.nI {st:List Stmt} {t:TS} (h:nH X.nI st t):nH X st t:=fun pins s σ H D I hw =>
 wpAny_mono (h pins s σ H D (I.iH _) hw) (fun _ _ q=>q.fN) fun _ _ z=>False.elim z
end
section
variable {X:Cx} {st:Stmt} {rest:List Stmt} {t u:TS} {e:Expr} {te:TE} {pos:Pos}
def NH:TS:=fun D σ H=>D.nx σ H
def Sq (t u:TS):TS:=fun D σ H=>t { D with nx:=u D } σ H
theorem Fi:nH X [] NH:=fun _ _ σ H _ I h=>wpAny_execs_nil ⟨σ,H,I,h⟩
theorem nZ (h1:PS X st t) (h2:nH X rest u):nH X (st :: rest) (Sq t u):=by
 intro pins s σ H D I h
 refine wpAny_execs_cons (bX (h1 pins s σ H { D with nx:=u D } I h) fun f s1 q=>?_)
 cases f with
 | next =>
   obtain ⟨σ',H',I',q⟩:=q
   exact h2 pins s1 σ' H' D I' q
 | ret v=>exact q
 | _=>exact q
theorem r6 (h1:PS X st t):nH X [st] t:=by
 intro pins s σ H D I h
 refine wpAny_execs_cons (bX (h1 pins s σ H D I h) fun f s1 q=>?_)
 cases f with
 | next=>exact wpAny_execs_nil q
 | ret v=>exact q
 | _=>exact q
theorem Inv.quiet {pins:List (Addr×Obj)} {σ:St} {H:Hp} {s:Shared} (I:Inv X pins σ H s):interactive X.env=false:=by simp [interactive,I.ok.kind]
def NI (te:TE):TS:=fun D σ H=>te σ H fun _ H1=>D.nx σ H1
theorem nJ (he:PE X e te) (hs:swapsWith e none pos.line X.env=pure false:=by rfl):PS X (.Expr e pos) (NI te):=by
 intro pins s σ H D I h
 exact wpAny_Expr_any (bX (he pins s σ H _ I h) fun v s1 ⟨x,H1,I1,r1,q1⟩=>⟨σ,H1,I1,q1⟩) I.quiet hs
def Sr (te:TE):TS:=fun D σ H=>te σ H D.rt
theorem JT (he:PE X e te):PS X (.Return (some e) pos) (Sr te):=by
 intro pins s σ H D I h
 exact wpAny_Return_some (bX (he pins s σ H _ I h) fun v s1 ⟨x,H1,I1,r1,q1⟩=>⟨x,σ,H1,I1,r1,q1⟩)
def Ss (c:TT) (t u:TS):TS:=fun D σ H=>c σ H fun b H1=>if b=true then t D σ H1 else u D σ H1
theorem NJ {c:Expr} {a b:List Stmt} {tc:TT} (hc:PT X c tc) (ha:nH X a t) (hb:nH X b u):PS X (.If c a b pos) (Ss tc t u):=by
 intro pins s σ H D I h
 refine wpAny_If (bX (hc pins s σ H _ I h) fun d s1 ⟨H1,I1,q1⟩=>?_)
 cases d with
 | true=>exact ha pins s1 σ H1 D I1 q1
 | false=>exact hb pins s1 σ H1 D I1 q1
end
abbrev TG:=V→St→Hp→(St→Hp→Prop)→Prop
abbrev Fj:=List V→St→Hp→(St→Hp→Prop)→Prop
def PG (X:Cx) (target:Expr) (t:TG):Prop :=
 ∀ (pins:List (Addr×Obj)) (s:Shared) (σ:St) (H:Hp) (v:V) (u:Value) (Q:St→Hp→Prop),Inv X pins σ H s→RelV v u→t v σ H Q →
  wpAny (model X.prog X.w) X.A (assign target X.env u) (fun _ s'=>∃ σ' H',Inv X pins σ' H' s'∧Q σ' H') X.xe s
def BO (X:Cx) (ts:List Expr) (t:Fj):Prop :=
 ∀ (pins:List (Addr×Obj)) (s:Shared) (σ:St) (H:Hp) (vs:List V) (us:List Value) (Q:St→Hp→Prop),Inv X pins σ H s→Vals vs us→t vs σ H Q →
  wpAny (model X.prog X.w) X.A (assignInOrder ((assignEach ts X.env).map (·.2)) us) (fun _ s'=>∃ σ' H',Inv X pins σ' H' s'∧Q σ' H') X.xe s
abbrev JU:=V→V→V→Hp→(Hp→Prop)→Prop
def NK (X:Cx) (t:JU):Prop :=
 ∀ (pins:List (Addr×Obj)) (s:Shared) (σ:St) (H:Hp) (o i v:V) (ov iv u:Value) (Q:Hp→Prop),Inv X pins σ H s→RelV o ov→RelV i iv→RelV v u→t o i v H Q →
  wpAny (model X.prog X.w) X.A (setItem ov iv u) (fun _ s'=>∃ H',Inv X pins σ H' s'∧Q H') X.xe s
abbrev Su:=V→V→Hp→VK→Prop
def WY (X:Cx) (op:Operator) (t:Su):Prop :=
 ∀ (pins:List (Addr×Obj)) (s:Shared) (σ:St) (H:Hp) (x y:V) (v u:Value) (Q:VK),Inv X pins σ H s→RelV x v→RelV y u→t x y H Q →
  wpAny (model X.prog X.w) X.A (inplaceOp op v u) (EP X pins σ Q) X.xe s
section
variable {X:Cx} {pos:Pos}
def ik (i:Nat):TG:=fun v σ H Q=>Q (σ.set i (some v)) H
theorem Fl {i:Nat} {x:Str} (hN:X.N.Nodup) (hi:X.N[i]?=some x) (hx:Loc X.env.scope x) (hf:X.fn x=true∨X.env.scope.names.lookup x=some .local:=by first | exact .inl rfl | exact .inr rfl | assumption):PG X (.Name x pos) (ik i):=by
 intro pins s σ H v u Q I r h
 exact wpAny_assign_Name (iG I hN hi hx r (fun s' I'=>⟨_,H,I',h⟩) hf)
def Sv:Fj:=fun vs σ H Q=>vs=[]∧Q σ H
def NL (t:TG) (u:Fj):Fj:=fun vs σ H Q=>∃ v r,vs=v :: r∧t v σ H fun σ' H'=>u r σ' H' Q
theorem Fm:BO X [] Sv:=by
 intro pins s σ H vs us Q I r h
 obtain ⟨e,h⟩:=h
 subst e
 cases r
 exact assignInOrder_nil ⟨σ,H,I,h⟩
theorem BP {e:Expr} {es:List Expr} {t:TG} {u:Fj} (h1:PG X e t) (h2:BO X es u)
  (hs:(assignEach (e :: es) X.env).map (·.2)=assign e X.env :: (assignEach es X.env).map (·.2):=by rfl):BO X (e :: es) (NL t u):=by
 intro pins s σ H vs us Q I r h
 obtain ⟨v,vr,e1,h⟩:=h
 subst e1
 cases r with
 | cons r rr =>
   rw [hs]
   refine assignInOrder_cons (bX (h1 pins s σ H _ _ _ I r h) fun _ s1 ⟨σ1,H1,I1,q1⟩=>?_)
   exact h2 pins s1 σ1 H1 _ _ Q I1 rr q1
def Sw (K:PySem.W.Frag) (n:Nat) (t:Fj):TG:=fun v σ H Q=>∃ a xs,v = .ref a∧dF K H a xs∧xs.length=n∧t xs σ H Q
theorem JV {es:List Expr} {k:Nat} {t:Fj} {n:Nat} (hc:X.calm=true) (h:BO X es t)
  (hn:(assignEach es X.env).length=n:=by rfl) (BQ:(assignEach es X.env).findIdx? (·.1)=none:=by rfl):PG X (.Tuple es k pos) (Sw X.K n t):=by
 intro pins s σ H v u Q I r hw
 obtain ⟨a,xs,e1,hq,hl,hw⟩:=hw
 subst e1
 cases r
 obtain ⟨aP,rv,ht,hz⟩:=I.tuple hq
 refine assign_Tuple_tuple (I.ok.hd hc) ht (by simp [hn,← hl,rv.length]) BQ fun h' hx=>?_
 have I1:Inv X pins σ H { s with heap:=h' }:=I.kept (t':=s.toks) fun b o e=>hx b o (gF (dG e)) e
 exact h pins _ σ H xs _ Q I1 (by simpa using rv) hw
def Sx (to ti:TE) (t:JU):TG:=fun v σ H Q=>to σ H fun o H1=>ti σ H1 fun i H2=>t o i v H2 fun H3=>Q σ H3
theorem JW {o i:Expr} {to ti:TE} {t:JU} (ho:PE X o to) (hi:PE X i ti) (hs:NK X t)
  (ha:∀ v,assign (.Subscript o i pos) X.env v=(do
    let ov ← holding [v] (eval o X.env)
    let iv ← holding [v,ov] (eval i X.env)
    standAt pos
    holding [v,ov,iv] (setItem ov iv v)
    release [v,ov,iv] []):=by intro _; rfl):PG X (.Subscript o i pos) (Sx to ti t):=by
 intro pins s σ H v u Q I r h
 rw [ha]
 refine wpAny_bind (wpAny_holding (bX (ho pins s σ H _ I h) fun ov s1 ⟨x,H1,I1,r1,q1⟩=>?_))
 refine wpAny_bind (wpAny_holding (bX (hi pins s1 σ H1 _ I1 q1) fun iv s2 ⟨y,H2,I2,r2,q2⟩=>?_))
 refine wpAny_bind (wpAny_standAt (wpAny_bind (wpAny_holding (bX (hs pins s2 σ H2 x y v ov iv u _ I2 r1 r2 r q2) fun _ s3 ⟨H3,I3,q3⟩=>?_))))
 exact wpAny_release ⟨σ,H3,I3,q3⟩
def Fo (te:TE) (g:TG):TS:=fun D σ H=>te σ H fun x H1=>g x σ H1 D.nx
theorem BR {tg e:Expr} {te:TE} {g:TG} (he:PE X e te) (hg:PG X tg g) (hs:swapsWithSole [tg] e pos.line X.env=pure false:=by rfl) (hw:swappedStores [tg] e X.env=pure none:=by rfl)
  (h1:(assignEach [tg] X.env).map (·.2)=[assign tg X.env]:=by rfl):PS X (.Assign [tg] e pos) (Fo te g):=by
 intro pins s σ H D I h
 refine wpAny_Assign_stores (bX (he pins s σ H _ I h) fun v s1 ⟨x,H1,I1,r1,q1⟩=>?_) hs hw
 rw [h1]
 exact bX (hg pins s1 σ H1 x v _ I1 r1 q1) fun _ s2 q=>q
theorem wj {i:Nat} {x:Str} {e:Expr} {te:TE} {pos':Pos} (hN:X.N.Nodup) (hi:X.N[i]?=some x) (hx:Loc X.env.scope x) (he:PE X e te) (hs:swapsWith e (some (.Name x pos')) pos.line X.env=pure false:=by rfl) (hf:X.fn x=true∨X.env.scope.names.lookup x=some .local:=by first | exact .inl rfl | exact .inr rfl | assumption) :
  PS X (.Assign [.Name x pos'] e pos) (Fo te (ik i)):=by
 intro pins s σ H D I h
 refine wpAny_Assign_Name (bX (he pins s σ H _ I h) fun v s1 ⟨y,H1,I1,r1,q1⟩=>?_) hs
 exact iG I1 hN hi hx r1 (fun s2 I2=>⟨_,H1,I2,q1⟩) hf
def Sy (i:Nat) (te:TE) (ti:Su):TS:=fun D σ H=>∃ x,σ[i]?=some (some x)∧te σ H fun y H1=>ti x y H1 fun z H2=>D.nx (σ.set i (some z)) H2
theorem JX {i:Nat} {x:Str} {e:Expr} {te:TE} {op:Operator} {ti:Su} {pos':Pos} (hN:X.N.Nodup) (hi:X.N[i]?=some x) (hx:Loc X.env.scope x) (he:PE X e te) (ho:WY X op ti) (hf:X.fn x=true∨X.env.scope.names.lookup x=some .local:=by first | exact .inl rfl | exact .inr rfl | assumption) :
  PS X (.AugAssign (.Name x pos') op e pos) (Sy i te ti):=by
 intro pins s σ H D I h
 obtain ⟨v,e1,h⟩:=h
 obtain ⟨m,hn,hl⟩:=I.loc
 have WZ:rY X.env.scope x:=by rcases hx with k | k; exact .inl k; exact .inr (.inl k)
 obtain ⟨u,r,l⟩:=hl i x v hi e1 WZ
 refine wpAny_AugAssign_Name ?_
 have go:wpAny (model X.prog X.w) X.A (eval e X.env) (fun w s₂=>wpAny (model X.prog X.w) X.A (inplaceOp op u w) (fun r s₃=>wpAny (model X.prog X.w) X.A (storeName X.env x r) (fun _=>SP X pins D .next) X.xe s₃) X.xe s₂) X.xe s:=by
  refine bX (he pins s σ H _ I h) fun w s1 ⟨y,H1,I1,r1,q1⟩=>?_
  refine bX (ho pins s1 σ H1 v y u w _ I1 r r1 q1) fun z s2 ⟨zv,H2,I2,r2,q2⟩=>?_
  exact iG I2 hN hi hx r2 (fun s3 I3=>⟨_,H2,I3,q2⟩) hf
 rcases l with ⟨hk,hm⟩ | ⟨hk,c,hc,yw⟩
 · exact wpAny_loadName_local I.ok.kind hk hn hm go
 · rcases hk with hk | hk
   · exact wpAny_loadName_cell I.ok.kind hk hc yw go
   · rcases hx with k | k
     · have:X.env.scope.names.lookup x=some .free:=hk
       rw [k] at this; cases this
     · have:X.env.scope.names.lookup x=some .free:=hk
       rw [k] at this; cases this
end
section
variable {X:Cx} {pos:Pos}
end
structure It where
 go:Nat→Hp→Prop
 M7:Nat→Hp→V→Hp→Prop
 stop:Nat→Hp→Prop
def lF (X:Cx) (pins:List (Addr×Obj)) (H:Hp) (b:Addr):Prop :=
 H b=none∧b≠X.env.locals∧b∉X.fs∧(b∈X.ex∨X.s₀.heap.objs.size≤b)∧(∀ x c,X.env.cells.lookup x=some c→c≠b)∧∀ p∈X.pn ++ pins,p.1≠b
theorem Inv.qf {X:Cx} {pins:List (Addr×Obj)} {σ:St} {H H':Hp} {s:Shared} {b:Addr} (I:Inv X pins σ H s) (hb:s.heap.objs.size≤b) (hn:H' b=none):lF X pins H' b:=by
 refine ⟨hn,Bu (nF I.lt hb),I.Se hb,.inr (mD I.sz hb),fun x c e z=>?_,fun p hp z=>?_⟩
 · obtain ⟨v,q⟩:=I.cell x c e
   exact absurd (nF q.lt (by rw [z]; exact hb)) (EM _)
 · exact absurd (nF (dG (I.pin p hp).1) (by rw [z]; exact hb)) (EM _)
structure Turn (P:Program) (w:World) (K:PySem.W.Frag) (tg:Expr) (J:It) (fp:List Addr) (it:Addr) (tn:Nat→Heap→Prop):Prop where
 mem:it∈fp
 obj:∀ i h,tn i h→∀ b∈fp,∃ o,h.get? b=some o∧∀ v,o.data≠.cell v
 keep:∀ i h h',tn i h→(∀ b∈fp,∀ o,h.get? b=some o→h'.get? b=some o)→tn i h'
 item:∀ (X:Cx),X.prog=P→X.w=w→X.K=K→X.calm=true→∀ (i:Nat) (pins:List (Addr×Obj)) (s:Shared) (σ:St) (H:Hp) (E:Value→Shared→Prop),Inv X pins σ H s→(∀ b∈fp,lF X pins H b)→tn i s.heap→J.go i H →
  wpAny (model P w) X.A (pyNext (.ref it)) (fun r s1=>∃ u,r=some u ∧
   wpAny (model P w) X.A (letOwnedTupleGo tg (.ref it) u) (fun _ s2=>∃ x H',Inv X pins σ H' s2∧RelV x u∧J.M7 i H x H'∧tn (i+1) s2.heap∧∀ b∈fp,H' b=none) E s1) E s
 done:∀ (X:Cx),X.prog=P→X.w=w→X.K=K→X.calm=true→∀ (i:Nat) (pins:List (Addr×Obj)) (s:Shared) (σ:St) (H:Hp) (E:Value→Shared→Prop),Inv X pins σ H s→(∀ b∈fp,lF X pins H b)→tn i s.heap→J.stop i H →
  wpAny (model P w) X.A (pyNext (.ref it)) (fun r s1=>r=none∧Inv X pins σ H s1) E s
 self:∀ (A:Around) (i:Nat) (s:Shared) (Q:Value→Shared→Prop) (E:Value→Shared→Prop),tn i s.heap→Q (.ref it) s→wpAny (model P w) A (pyIter (.ref it)) Q E s
abbrev TI:=St→Hp→(It→Hp→Prop)→Prop
def VN (X:Cx) (pins:List (Addr×Obj)) (σ:St) (tg:Expr) (R:It→Hp→Prop) (Ra:Value) (s2:Shared):Prop :=
 ∃ (it:Addr) (fp:List Addr) (tn:Nat→Heap→Prop) (J:It) (H':Hp),Ra = .ref it∧Inv X pins σ H' s2∧Turn X.prog X.w X.K tg J fp it tn∧tn 0 s2.heap∧(∀ b∈fp,lF X pins H' b)∧R J H'
def PI (X:Cx) (tg iter:Expr) (wi:TI):Prop :=
 ∀ (pins:List (Addr×Obj)) (s:Shared) (σ:St) (H:Hp) (R:It→Hp→Prop),Inv X pins σ H s→wi σ H R →
  wpAny (model X.prog X.w) X.A (eval iter X.env) (fun v s1=>wpAny (model X.prog X.w) X.A (pyIter v) (VN X pins σ tg R) X.xe s1) X.xe s
theorem yx {M:Model} {A:Around} {E:Value→Shared→Prop} {s:Shared} {tg:Expr} {it:Addr} {u:Value} {o:Obj} {n:String} {vs:Array Value} {Q:Unit→Shared→Prop} (ho:s.heap.get? it=some o) (hc:o.cls = .type n) (hd:o.data = .fields vs)
  (hn:["enumerate","zip","dict_itemiterator","dict_reverseitemiterator","odict_iterator","itertools.zip_longest","itertools.pairwise"].contains n=false) (hQ:Q () s):wpAny M A (letOwnedTupleGo tg (.ref it) u) Q E s:=by
 unfold letOwnedTupleGo
 cases tg <;> first
  | exact wpAny_pure hQ
  | (cases u <;> first
      | exact wpAny_pure hQ
      | (refine wpAny_bind (wpAny_load ho ?_)
         rw [hc,hd]
         show wpAny M A (if (["enumerate","zip","dict_itemiterator","dict_reverseitemiterator","odict_iterator","itertools.zip_longest","itertools.pairwise"].contains n && vs[0]? == some (rawInt _))=true then _ else _) Q E s
         rw [if_neg (by intro h; rw [hn,Ie] at h; cases h)]
         exact wpAny_pure hQ))
def Sz (K:PySem.W.Frag) (a:Addr):It :=
 ⟨fun i H=>∃ xs x,eJ K H a xs∧xs[i]?=some x,fun i H x H'=>H'=H∧∀ xs,eJ K H a xs→xs[i]?=some x,fun i H=>∃ xs,eJ K H a xs∧xs.length≤i⟩
def SA (K:PySem.W.Frag) (a:Addr):It :=
 ⟨fun i H=>∃ xs x,dF K H a xs∧xs[i]?=some x,fun i H x H'=>H'=H∧∀ xs,dF K H a xs→xs[i]?=some x,fun i H=>∃ xs,dF K H a xs∧xs.length≤i⟩
def Rb (lo:Int) (n:Nat):It:=⟨fun i _=>i < n,fun i H x H'=>H'=H∧x = .int (lo+i),fun i _=>n≤i⟩
theorem zG {P:Program} {w:World} {K:PySem.W.Frag} {tg:Expr} (a it:Addr):Turn P w K tg (Sz K a) [it] it (fun i h=>h.IsListIter it a i) where
 mem:=by simp
 obj:=fun i h st b hb=>by
  have e:b=it:=by simpa using hb
  subst e
  obtain ⟨o,e,c,d⟩:=st
  exact ⟨o,e,fun v z=>by rw [d] at z; cases z⟩
 keep:=fun i h h' st k=>st.at fun o e=>k it (by simp) o e
 item:=by
  intro X hP hw hK hc i pins s σ H E I hf st hg
  subst hP hw hK
  obtain ⟨xs,x,hq,hx⟩:=hg
  obtain ⟨aP,rv,p,hz⟩:=I.list hq
  obtain ⟨u,hu,ru⟩:=rv.get hx
  obtain ⟨f0,f1,f2,f3,f4,f5⟩:=hf it (by simp)
  refine wpAny_pyNext_list_item st p.isList (x:=u) (by simpa using hu) fun h' wm sb=>?_
  have I1:Inv X pins σ H { s with heap:=h' }:=I.turned (t':=s.toks) (fun b o hb e=>(sb.2 b hb).trans e) f0 f1 f3 f4 f5
  obtain ⟨o,e,c,d⟩:=id wm
  exact ⟨u,rfl,yx (s:={ s with heap:=h' }) e c d (by decide) ⟨x,H,I1,ru,⟨rfl,fun ys hy=>by rw [I.kq hy hq]; exact hx⟩,wm,fun b hb=>(hf b hb).1⟩⟩
 done:=by
  intro X hP hw hK hc i pins s σ H E I hf st hg
  subst hP hw hK
  obtain ⟨xs,hq,hx⟩:=hg
  obtain ⟨aP,rv,p,hz⟩:=I.list hq
  obtain ⟨f0,f1,f2,f3,f4,f5⟩:=hf it (by simp)
  have hl:=rv.length
  exact wpAny_pyNext_list_end (I.ok.hd hc) st p.isList (by simp; omega) fun h' eb=>⟨rfl,I.turned (t':=s.toks) (fun b o hb e=>eb b o hb e) f0 f1 f3 f4 f5⟩
 self:=fun _ _ _ _ _ st h=>wpAny_pyIter_listiter st h
theorem wo {P:Program} {w:World} {K:PySem.W.Frag} {tg:Expr} (a it:Addr):Turn P w K tg (SA K a) [it] it (fun i h=>h.IsTupleIter it a i) where
 mem:=by simp
 obj:=fun i h st b hb=>by
  have e:b=it:=by simpa using hb
  subst e
  obtain ⟨o,e,c,d⟩:=st
  exact ⟨o,e,fun v z=>by rw [d] at z; cases z⟩
 keep:=fun i h h' st k=>st.at fun o e=>k it (by simp) o e
 item:=by
  intro X hP hw hK hc i pins s σ H E I hf st hg
  subst hP hw hK
  obtain ⟨xs,x,hq,hx⟩:=hg
  obtain ⟨aP,rv,p,hz⟩:=I.tuple hq
  obtain ⟨u,hu,ru⟩:=rv.get hx
  obtain ⟨f0,f1,f2,f3,f4,f5⟩:=hf it (by simp)
  refine wpAny_pyNext_tuple_item st (show s.heap.IsTuple a aP.toArray from p) (x:=u) (by simpa using hu) fun h' wm sb=>?_
  have I1:Inv X pins σ H { s with heap:=h' }:=I.turned (t':=s.toks) (fun b o hb e=>(sb.2 b hb).trans e) f0 f1 f3 f4 f5
  obtain ⟨o,e,c,d⟩:=id wm
  exact ⟨u,rfl,yx (s:={ s with heap:=h' }) e c d (by decide) ⟨x,H,I1,ru,⟨rfl,fun ys hy=>by rw [I.lC hy hq]; exact hx⟩,wm,fun b hb=>(hf b hb).1⟩⟩
 done:=by
  intro X hP hw hK hc i pins s σ H E I hf st hg
  subst hP hw hK
  obtain ⟨xs,hq,hx⟩:=hg
  obtain ⟨aP,rv,p,hz⟩:=I.tuple hq
  obtain ⟨f0,f1,f2,f3,f4,f5⟩:=hf it (by simp)
  have hl:=rv.length
  exact wpAny_pyNext_tuple_end (I.ok.hd hc) st (show s.heap.IsTuple a aP.toArray from p) (by simp; omega) fun h' eb=>⟨rfl,I.turned (t':=s.toks) (fun b o hb e=>eb b o hb e) f0 f1 f3 f4 f5⟩
 self:=fun _ _ _ _ _ st h=>wpAny_pyIter_tupleiter st h
theorem wq {P:Program} {w:World} {K:PySem.W.Frag} {tg:Expr} (it:Addr) (lo:Int) (n:Nat):Turn P w K tg (Rb lo n) [it] it (fun i h=>IsRangeIter h it (lo+(i:Nat) * 1) ((n:Int) - (i:Nat)) 1) where
 mem:=by simp
 obj:=fun i h st b hb=>by
  have e:b=it:=by simpa using hb
  subst e
  exact ⟨_,st,fun v z=>by
   have z':Data.fields _=Data.cell v:=z
   cases z'⟩
 keep:=fun i h h' st k=>k it (by simp) _ st
 item:=by
  intro X hP hw hK hc i pins s σ H E I hf st hg
  subst hP hw hK
  obtain ⟨f0,f1,f2,f3,f4,f5⟩:=hf it (by simp)
  have W:=Walks.range (prog:=X.prog) (w:=X.w) (I.ok.hd hc) it lo 1 n
  refine W.item i s _ _ hg st fun v h' tk hv wm kk=>?_
  obtain ⟨t,rfl⟩:=hv
  have I1:Inv X pins σ H { s with heap:=h',toks:=tk }:=I.turned (fun b o hb e=>kk b o (by simpa using hb) e) f0 f1 f3 f4 f5
  refine ⟨_,rfl,yx (s:={ s with heap:=h',toks:=tk }) (n:="range_iterator") wm rfl rfl (by decide) ⟨.int (lo+i),H,I1,⟨t,?_⟩,⟨rfl,rfl⟩,wm,fun b hb=>(hf b hb).1⟩⟩
  rw [Int.mul_one]
 done:=by
  intro X hP hw hK hc i pins s σ H E I hf st hg
  subst hP hw hK
  obtain ⟨f0,f1,f2,f3,f4,f5⟩:=hf it (by simp)
  exact wpAny_pyNext_range_end (I.ok.hd hc) st (by have:n≤i:=hg; omega) fun h' eb=>⟨rfl,I.turned (t':=s.toks) (fun b o hb e=>eb b o hb e) f0 f1 f3 f4 f5⟩
 self:=fun _ _ _ _ _ st h=>wpAny_pyIter_rangeiter st h
section
variable {X:Cx} {tg:Expr}
theorem BS {pins:List (Addr×Obj)} {σ:St} {H:Hp} {s:Shared} {R:It→Hp→Prop} {E:Value→Shared→Prop} {lo hi:Int} {t u v:Tok} {tk:Nat} (I:Inv X pins σ H s) (h1 : -(2 ^ 62)≤lo) (h2:lo < 2 ^ 62) (h3 : -(2 ^ 62)≤hi) (h4:hi < 2 ^ 62)
  (q:R (Rb lo (hi - lo).toNat) H):wpAny (model X.prog X.w) X.A (pyIter (.ref s.heap.objs.size)) (VN X pins σ tg R) E { s with heap:=s.heap.push { cls:=.type "range",data:=.fields #[.int lo t,.int hi u,.int 1 v] },toks:=tk }:=by
 refine wpAny_pyIter_range (IsRange.new ..) (small_one h1 h2 h3 h4) ?_
 have I1:Inv X pins σ H { s with heap:=s.heap.push { cls:=.type "range",data:=.fields #[.int lo t,.int hi u,.int 1 v] },toks:=tk }:=I.kept fun b o e=>de _ e
 refine ⟨(s.heap.push { cls:=.type "range",data:=.fields #[.int lo t,.int hi u,.int 1 v] }).objs.size,[(s.heap.push { cls:=.type "range",data:=.fields #[.int lo t,.int hi u,.int 1 v] }).objs.size],_,_,H,rfl,
  I1.kept (t':=tk) fun b o e=>de _ e,wq _ lo (hi - lo).toNat,?_,fun b hb=>?_,q⟩
 · have e1:lo+((0:Nat):Int) * 1=lo:=by simp
   have e2:(((hi - lo).toNat:Nat):Int) - ((0:Nat):Int)=Builtin.Range.rangeSize lo hi 1:=by rw [rangeSize_one]; split <;> omega
   show IsRangeIter _ _ (lo+((0:Nat):Int) * 1) ((((hi - lo).toNat:Nat):Int) - ((0:Nat):Int)) 1
   rw [e1,e2]
   exact nE _ rfl
 · have e:b=(s.heap.push { cls:=.type "range",data:=.fields #[.int lo t,.int hi u,.int 1 v] }).objs.size:=by simpa using hb
   subst e
   exact I1.qf (dX _) (I1.bC.fresh (dX _))
def NM (ta:TA):TI:=fun σ H R=>ta σ H fun vs H1=>∃ j:Int,vs=[.int j]∧-(2 ^ 62)≤j∧j < 2 ^ 62∧R (Rb 0 j.toNat) H1
theorem zH {a:Expr} {ta:TA} {p pos:Pos} (hg:Gl X "range") (hm:X.mg "range" = none) (ha:PA X [a] ta) (hs:starEach [a] X.env=[(false,eval a X.env)]:=by rfl):PI X tg (.Call (.Name "range" p) [a] [] pos) (NM ta):=by
 intro pins s σ H R I h
 refine Call_ (jR I hg hm boot_range (QO (bX (ha pos pins s σ H _ I h) fun us s1 ⟨vs,H1,I1,r1,q1⟩=>?_) hs rfl))
 obtain ⟨j,e,q1,q2,q⟩:=q1
 subst e
 cases r1 with
 | cons r rr =>
   cases rr
   obtain ⟨t,rfl⟩:=r
   exact call_range_1 (BS I1 (by omega) (by omega) q1 q2 (by simpa using q))
def SD (wi:TI) (g:TG) (tb:TS):TS:=fun D σ H=>wi σ H fun J H1=>∃ W:Nat→Nat→St→Hp→Prop,(∃ m,W 0 m σ H1)∧∀ i m σ H,W i m σ H →
 (J.stop i H∧D.nx σ H)∨(J.go i H∧∃ N:St→Hp→Prop,(∀ σ' H',N σ' H'→∃ m',m' < m∧W (i+1) m' σ' H')∧∀ x H',J.M7 i H x H'→g x σ H' fun σ2 H2=>tb { D with nx:=N,ct:=N,bk:=D.nx } σ2 H2)
def n5 (fp:List Addr) (h:Heap):List (Addr×Obj):=fp.filterMap fun b=>(h.get? b).map fun o=>(b,o)
theorem gH {fp:List Addr} {h:Heap} {b:Addr} {o:Obj} (hb:b∈fp) (e:h.get? b=some o):(b,o)∈n5 fp h:=List.mem_filterMap.mpr ⟨b,hb,by rw [e]; rfl⟩
theorem zI {fp:List Addr} {h:Heap} {p:Addr×Obj} (hp:p∈n5 fp h):p.1∈fp∧h.get? p.1=some p.2:=by
 obtain ⟨b,hb,e⟩:=List.mem_filterMap.mp hp
 cases q:h.get? b with
 | none=>rw [q] at e; cases e
 | some o =>
   rw [q] at e
   have e':(b,o)=p:=Option.some.inj e
   subst e'
   exact ⟨hb,q⟩
theorem Inv.pinned {pins:List (Addr×Obj)} {σ:St} {H:Hp} {s:Shared} {fp:List Addr} (I:Inv X pins σ H s) (hf:∀ b∈fp,lF X pins H b) (ho:∀ b∈fp,∃ o,s.heap.get? b=some o∧∀ v,o.data≠.cell v):Inv X (pins ++ n5 fp s.heap) σ H s :=
 I.yt fun p hp=>(iw.mp hp).elim (fun z=>I.pin p (lj _ z)) fun z=>by
  obtain ⟨hb,e⟩:=zI z
  obtain ⟨f0,f1,f2,_⟩:=hf p.1 hb
  obtain ⟨o,e',d⟩:=ho p.1 hb
  rw [e] at e'; cases e'
  exact ⟨e,f0,f1,f2,d⟩
theorem Inv.kr {pins pl:List (Addr×Obj)} {σ:St} {H:Hp} {s:Shared} (I:Inv X (pins ++ pl) σ H s):Inv X pins σ H s:=I.yt fun p hp=>I.pin p (lj _ (ll _ hp))
theorem JY {iter:Expr} {body:List Stmt} {wi:TI} {g:TG} {tb:TS} {pos:Pos} (hp:PassesOwn (model X.prog X.w) X.A X.env X.xe) (hc:X.calm=true) (hi:PI X tg iter wi) (hg:PG X tg g) (hb:nH X body tb)
  (hs:∀ x,foldedSetIterable iter X.env x=pure x:=by intro _; rfl):PS X (.For tg iter body [] pos) (SD wi g tb):=by
 intro pins s σ H D I h
 refine wpAny_For (bX (hi pins s σ H _ I h) fun v s1 h1=>bX h1 fun Ra s2 h2=>?_) hs
 obtain ⟨it,fp,tn,J,H2,e,I2,T,Bw,f2,W,⟨m0,w0⟩,turn⟩:=h2
 subst e
 have JZ:∀ {H':Hp},(∀ b∈fp,H' b=none)→∀ b∈fp,lF X pins H' b:=fun hn b hb=>⟨hn b hb,(f2 b hb).2⟩
 refine codeAny_forLoop_any (fun n s'=>∃ i σ' H',Inv X pins σ' H' s'∧tn i s'.heap∧(∀ b∈fp,H' b=none)∧W i n σ' H') ?_ m0 ⟨0,σ,H2,I2,Bw,fun b hb=>(f2 b hb).1,w0⟩
 rintro n s3 ⟨i,σ3,H3,I3,NN,NO,w3⟩
 rcases turn i n σ3 H3 w3 with ⟨stop,qn⟩ | ⟨go,N,hN,step⟩
 · refine wpAny_passesOwn hp (bX (T.done X rfl rfl rfl hc i pins s3 σ3 H3 X.xe I3 (JZ NO) NN stop) fun r s4 ⟨hr,I4⟩=>?_)
   subst hr
   exact wpAny_execs_nil ⟨σ3,H3,I4,qn⟩
 · refine wpAny_passesOwn hp (bX (T.item X rfl rfl rfl hc i pins s3 σ3 H3 X.xe I3 (JZ NO) NN go) fun r s4 ⟨u,hr,h4⟩=>?_)
   subst hr
   refine wpAny_passesOwn hp (bX h4 fun _ s5 ⟨x,H5,I5,r5,y5,J_,SE⟩=>?_)
   have W0:=I5.pinned (JZ SE) (T.obj _ _ J_)
   refine wpAny_passesOwn hp (bX (hg _ s5 σ3 H5 x u _ W0 r5 (step x H5 y5)) fun _ s6 ⟨σ6,H6,I6,q6⟩=>?_)
   refine wpAny_passesOwn hp (bX (hb _ s6 σ6 H6 _ I6 q6) fun f s7 q7=>?_)
   have again:∀ {σ7:St} {H7:Hp},Inv X (pins ++ n5 fp s5.heap) σ7 H7 s7→N σ7 H7→∃ m,m < n∧∃ i σ' H',Inv X pins σ' H' s7∧tn i s7.heap∧(∀ b∈fp,H' b=none)∧W i m σ' H':=fun {σ7 H7} I7 n7=>by
    obtain ⟨m',hm,w7⟩:=hN σ7 H7 n7
    refine ⟨m',hm,i+1,σ7,H7,I7.kr,T.keep _ _ _ J_ fun b hb o e=>(I7.pin (b,o) (lj _ (lj _ (gH hb e)))).1,fun b hb=>?_,w7⟩
    obtain ⟨o,e,d⟩:=T.obj _ _ J_ b hb
    exact (I7.pin (b,o) (lj _ (lj _ (gH hb e)))).2.1
   cases f with
   | brk=>obtain ⟨σ7,H7,I7,q7⟩:=q7; exact ⟨σ7,H7,I7.kr,q7⟩
   | ret v=>obtain ⟨x7,σ7,H7,I7,r7,q7⟩:=q7; exact ⟨x7,σ7,H7,I7.kr,r7,q7⟩
   | _=>obtain ⟨σ7,H7,I7,n7⟩:=q7; exact again I7 n7
end
abbrev R2:=V→V→Hp→VK→Prop
def d_ (X:Cx) (f:Value→Value→Sem Value) (r:R2):Prop :=
 ∀ (pins:List (Addr×Obj)) (s:Shared) (σ:St) (H:Hp) (x y:V) (v u:Value) (Q:VK),Inv X pins σ H s→RelV x v→RelV y u→r x y H Q →
  wpAny (model X.prog X.w) X.A (f v u) (EP X pins σ Q) X.xe s
def SG (X:Cx) (f:Value→Sem Value) (r:V→Hp→VK→Prop):Prop :=
 ∀ (pins:List (Addr×Obj)) (s:Shared) (σ:St) (H:Hp) (x:V) (v:Value) (Q:VK),Inv X pins σ H s→RelV x v→r x H Q →
  wpAny (model X.prog X.w) X.A (f v) (EP X pins σ Q) X.xe s
def c_ (X:Cx) (f:Value) (r:List V→Hp→VK→Prop):Prop :=
 ∀ (pins:List (Addr×Obj)) (s:Shared) (σ:St) (H:Hp) (xs:List V) (us:List Value) (Q:VK),Inv X pins σ H s→Vals xs us→r xs H Q →
  wpAny (model X.prog X.w) X.A (call f us) (EP X pins σ Q) X.xe s
def NP (r:R2) (ta tb:TE):TE:=fun σ H Q=>ta σ H fun x H1=>tb σ H1 fun y H2=>r x y H2 Q
def W2 (r:V→Hp→VK→Prop) (ta:TE):TE:=fun σ H Q=>ta σ H fun x H1=>r x H1 Q
def rI (C:Int→Int→Prop) (g:Int→Int→V):R2:=fun x y H Q=>∃ i j,x = .int i∧y = .int j∧C i j∧Q (g i j) H
def r8 (g:Int→Int→V):R2:=fun x y H Q=>∃ i j,x = .int i∧y = .int j∧Q (g i j) H
def rU (g:Int→V):V→Hp→VK→Prop:=fun x H Q=>∃ i,x = .int i∧Q (g i) H
section
variable {X:Cx} {a b c:Expr} {ta tb tc:TE} {pos:Pos}
theorem Ka (ha:PE X a ta) (hb:PE X b tb) {pins:List (Addr×Obj)} {s:Shared} {σ:St} {H:Hp} {R:V→V→Hp→Prop} (I:Inv X pins σ H s)
  (h:ta σ H fun x H1=>tb σ H1 fun y H2=>R x y H2) {Q:Value→Shared→Prop} {f:Value→Value→Sem Value}
  (hf:∀ v u s2 x y H2,Inv X pins σ H2 s2→RelV x v→RelV y u→R x y H2→wpAny (model X.prog X.w) X.A (f v u) Q X.xe s2) :
  wpAny (model X.prog X.w) X.A (eval a X.env) (fun v s₁=>wpAny (model X.prog X.w) X.A (eval b X.env) (fun u s₂=>wpAny (model X.prog X.w) X.A (f v u) Q X.xe s₂) X.xe s₁) X.xe s:=by
 refine bX (ha pins s σ H _ I h) fun v s1 ⟨x,H1,I1,r1,q1⟩=>?_
 refine bX (hb pins s1 σ H1 _ I1 q1) fun u s2 ⟨y,H2,I2,r2,q2⟩=>?_
 exact hf v u s2 x y H2 I2 r1 r2 q2
theorem NQ {op:Operator} {r:R2} (ho:d_ X (binaryOp op) r) (ha:PE X a ta) (hb:PE X b tb):PE X (.BinOp a op b pos) (NP r ta tb):=by
 intro pins s σ H Q I h
 exact wpAny_BinOp (Ka ha hb I h fun v u s2 x y H2 I2 rx ry q=>ho pins s2 σ H2 x y v u Q I2 rx ry q)
theorem NR {op:UnaryOp} {r:V→Hp→VK→Prop} (ho:SG X (unaryOp op) r) (ha:PE X a ta):PE X (.UnaryOp op a pos) (W2 r ta):=by
 intro pins s σ H Q I h
 exact UnaryOp_ (bX (ha pins s σ H _ I h) fun v s1 ⟨x,H1,I1,r1,q1⟩=>ho pins s1 σ H1 x v Q I1 r1 q1)
theorem Rc {f:Value→Value→Sem Value} {C:Int→Int→Prop} {g:Int→Int→Int}
  (rule:∀ (i j:Int) (t u:Tok) (s:Shared) (Q:Value→Shared→Prop) (E:Value→Shared→Prop),C i j→Q (.int (g i j) s.toks) { s with toks:=s.toks+1 }→wpAny (model X.prog X.w) X.A (f (.int i t) (.int j u)) Q E s) :
  d_ X f (rI C fun i j=>.int (g i j)):=by
 intro pins s σ H x y v u Q I rx ry h
 obtain ⟨i,j,rfl,rfl,hc,q⟩:=h
 obtain ⟨t,rfl⟩:=rx
 obtain ⟨t',rfl⟩:=ry
 exact rule i j t t' s _ _ hc ⟨.int (g i j),H,I.tok _,⟨_,rfl⟩,q⟩
theorem Kb {f:Value→Value→Sem Value} {g:Int→Int→Int}
  (rule:∀ (i j:Int) (t u:Tok) (s:Shared) (Q:Value→Shared→Prop) (E:Value→Shared→Prop),Q (.int (g i j) s.toks) { s with toks:=s.toks+1 }→wpAny (model X.prog X.w) X.A (f (.int i t) (.int j u)) Q E s) :
  d_ X f (r8 fun i j=>.int (g i j)):=by
 intro pins s σ H x y v u Q I rx ry h
 obtain ⟨i,j,rfl,rfl,q⟩:=h
 obtain ⟨t,rfl⟩:=rx
 obtain ⟨t',rfl⟩:=ry
 exact rule i j t t' s _ _ ⟨.int (g i j),H,I.tok _,⟨_,rfl⟩,q⟩
theorem Kc {f:Value→Value→Sem Value} {g:Int→Int→Bool}
  (rule:∀ (i j:Int) (t u:Tok) (s:Shared) (Q:Value→Shared→Prop) (E:Value→Shared→Prop),Q (.bool (g i j)) s→wpAny (model X.prog X.w) X.A (f (.int i t) (.int j u)) Q E s) :
  d_ X f (r8 fun i j=>.bl (g i j)):=by
 intro pins s σ H x y v u Q I rx ry h
 obtain ⟨i,j,rfl,rfl,q⟩:=h
 obtain ⟨t,rfl⟩:=rx
 obtain ⟨t',rfl⟩:=ry
 exact rule i j t t' s _ _ ⟨.bl (g i j),H,I,rfl,q⟩
def NT (i j:Int):Prop:=0 < j∧j < 1073741824
def NU (i j:Int):Prop:=0≤j∧j≤1000000∧i.natAbs < 2 ^ 64
def BU (i j:Int):Prop:=(-(2 ^ 64) < i∧i < 2 ^ 64)∨(-(2 ^ 64) < j∧j < 2 ^ 64)
theorem BU.ok {i j:Int} (h:BU i j):IntMulOk i j:=by
 rcases h with ⟨h1,h2⟩ | ⟨h1,h2⟩
 · exact .of_left (intBits_le_64 h1 h2)
 · exact .of_right (intBits_le_64 h1 h2)
theorem Kd:d_ X (binaryOp .Add) (r8 fun i j=>.int (i+j)):=Kb fun _ _ _ _ _ _ _ q=>add_int q
theorem Ke:d_ X (binaryOp .Sub) (r8 fun i j=>.int (i - j)):=Kb fun _ _ _ _ _ _ _ q=>sub_int q
theorem Kg:d_ X (binaryOp .Mult) (rI BU fun i j=>.int (i * j)):=Rc fun _ _ _ _ _ _ _ hc q=>mul_int q hc.ok
theorem Fp:d_ X (binaryOp .FloorDiv) (rI NT fun i j=>.int (i / j)):=Rc fun i j _ _ _ _ _ hc q=>by
 have h1:(0:Int) < j:=hc.1
 have h2:j < 1073741824:=hc.2
 exact floordiv_int (by omega) (by rw [Int.fdiv_eq_ediv_of_nonneg i (by omega)]; exact q) (.inl (PyProof.noPylong_small (by omega)))
theorem Kh:d_ X (binaryOp .Mod) (rI (fun _ j=>0 < j) fun i j=>.int (i % j)):=Rc fun i j _ _ _ _ _ hc q=>by
 have h1:(0:Int) < j:=hc
 exact mod_int' (by omega) (by rw [Int.fmod_eq_emod_of_nonneg i (by omega)]; exact q)
theorem Ki:d_ X (binaryOp .Pow) (rI NU fun i j=>.int (i ^ j.toNat)):=Rc fun _ _ _ _ _ _ _ hc q=>pow_int_small hc.1 hc.2.1 hc.2.2 q
theorem Fq:d_ X (inplaceOp .Add) (r8 fun i j=>.int (i+j)):=Kb fun _ _ _ _ _ _ _ q=>iadd_int q
theorem W3 {f:Value→Sem Value} {g:Int→Int}
  (rule:∀ (i:Int) (t:Tok) (s:Shared) (Q:Value→Shared→Prop) (E:Value→Shared→Prop),Q (.int (g i) s.toks) { s with toks:=s.toks+1 }→wpAny (model X.prog X.w) X.A (f (.int i t)) Q E s) :
  SG X f (rU fun i=>.int (g i)):=by
 intro pins s σ H x v Q I rx h
 obtain ⟨i,rfl,q⟩:=h
 obtain ⟨t,rfl⟩:=rx
 exact rule i t s _ _ ⟨.int (g i),H,I.tok _,⟨_,rfl⟩,q⟩
theorem Kj:SG X (unaryOp .USub) (rU fun i=>.int (-i)):=W3 fun _ _ _ _ _ q=>neg_int q
end
section
variable {X:Cx} {a b c:Expr} {ta tb tc:TE} {pos:Pos}
theorem BV {pins:List (Addr×Obj)} {σ:St} {H:Hp} {s:Shared} {Q:VK} {k k':Bool} (I:Inv X pins σ H s) (q:Q (.bl k) H) (e:k=k'):EP X pins σ Q (.bool k') s:=by
 subst e
 exact ⟨.bl k,H,I,rfl,q⟩
theorem BW:d_ X (compareOp .Lt) (r8 fun i j=>.bl (decide (i < j))):=Kc fun _ _ _ _ _ _ _ q=>lt_int q
theorem BX:d_ X (compareOp .LtE) (r8 fun i j=>.bl (decide (i≤j))):=Kc fun _ _ _ _ _ _ _ q=>le_int q
theorem NV:d_ X (compareOp .Gt) (r8 fun i j=>.bl (decide (j < i))):=Kc fun _ _ _ _ _ _ _ q=>gt_int q
theorem zJ:d_ X (compareOp .In) (fun x y H Q=>∃ i j,x = .str i∧y = .str j∧Q (.bl (!(Builtin.Str.occurrences j i 0 j.length 1).isEmpty)) H):=by
 intro pins s σ H x y v u Q I rx ry h
 obtain ⟨i,j,rfl,rfl,q⟩:=h
 obtain ⟨t,rfl⟩:=rx
 obtain ⟨t',rfl⟩:=ry
 exact in_str (BV I q rfl)
theorem Kk:d_ X (compareOp .Is) (fun x y H Q=>y = .bu∧Q (.bl (decide (x = .bu))) H):=by
 intro pins s σ H x y v u Q I rx ry h
 obtain ⟨rfl,q⟩:=h
 cases ry
 refine is_none_gen (BV I q ?_)
 cases x <;> first
  | (cases rx; rfl)
  | (obtain ⟨t,rfl⟩:=rx; rfl)
theorem d_.or {f:Value→Value→Sem Value} {r r':R2} (h:d_ X f r) (h':d_ X f r'):d_ X f (fun x y H Q=>r x y H Q∨r' x y H Q):=by
 intro pins s σ H x y v u Q I rx ry q
 rcases q with q | q
 · exact h pins s σ H x y v u Q I rx ry q
 · exact h' pins s σ H x y v u Q I rx ry q
theorem iI (b:Expr) {op:CmpOp} (h:op≠.In:=by decide) (h2:op≠.NotIn:=by decide):behindInMarks op b=false:=by
 have e1:(op == CmpOp.In)=false:=by cases op <;> first | rfl | exact absurd rfl h
 have e2:(op == CmpOp.NotIn)=false:=by cases op <;> first | rfl | exact absurd rfl h2
 cases b <;> simp [behindInMarks,e1,e2]
theorem Fs {op:CmpOp} {r:R2} (ho:d_ X (compareOp op) r) (ha:PE X a ta) (hb:PE X b tb) (hm:behindInMarks op b=false):PE X (.Compare a [op] [b] pos) (NP r ta tb):=by
 intro pins s σ H Q I h
 exact wpAny_Compare1 (Ka ha hb I h fun v u s2 x y H2 I2 rx ry q=>ho pins s2 σ H2 x y v u Q I2 rx ry q) hm
def Il (t:TE):TT:=fun σ H Q=>t σ H fun x H'=>∃ k,x = .bl k∧Q k H'
theorem Ft {op:CmpOp} {r:R2} (ho:d_ X (compareOp op) r) (ha:PE X a ta) (hb:PE X b tb) (hm:behindInMarks op b=false):PT X (.Compare a [op] [b] pos) (Il (NP r ta tb)):=by
 intro pins s σ H Q I h
 refine wpAny_isTrue_Compare1 (bX (ha pins s σ H _ I h) fun v s1 ⟨x,H1,I1,r1,q1⟩=>bX (hb pins s1 σ H1 _ I1 q1) fun u s2 ⟨y,H2,I2,r2,q2⟩ =>
  bX (ho pins s2 σ H2 x y v u _ I2 r1 r2 q2) fun c s3 ⟨z,H3,I3,r3,k,e,q3⟩=>?_) hm
 subst e
 cases r3
 exact wpAny_truthy_bool ⟨H3,I3,q3⟩
def wt (r r':R2) (ta tb tc:TE):TE:=fun σ H Q=>ta σ H fun x H1=>tb σ H1 fun y H2=>r x y H2 fun z H3=>∃ k,z = .bl k ∧
 (if k=true then tc σ H3 fun w' H4=>r' y w' H4 Q else Q (.bl false) H3)
theorem BY {op wu:CmpOp} {r r':R2} (ho:d_ X (compareOp op) r) (we:d_ X (compareOp wu) r') (ha:PE X a ta) (hb:PE X b tb) (hc:PE X c tc)
  (hm:lastMarks [op,wu] [b,c]=false:=by with_unfolding_all rfl):PE X (.Compare a [op,wu] [b,c] pos) (wt r r' ta tb tc):=by
 intro pins s σ H Q I h
 refine Compare_chain (bX (ha pins s σ H _ I h) fun v s1 ⟨x,H1,I1,r1,q1⟩=>chain_link (bX (hb pins s1 σ H1 _ I1 q1) fun u s2 ⟨y,H2,I2,r2,q2⟩ =>
  bX (ho pins s2 σ H2 x y v u _ I2 r1 r2 q2) fun d s3 ⟨z,H3,I3,r3,k,e,q3⟩=>?_)) hm
 subst e
 cases r3
 refine wpAny_truthy_bool ?_
 cases k with
 | false=>exact ite_ff ⟨.bl false,H3,I3,rfl,q3⟩
 | true=>exact ite_tt (chain_last (bX (hc pins s3 σ H3 _ I3 q3) fun w' s4 ⟨z',H4,I4,r4,q4⟩=>we pins s4 σ H4 y z' u w' Q I4 r2 r4 q4))
theorem BZ {op wu:CmpOp} {r r':R2} (ho:d_ X (compareOp op) r) (we:d_ X (compareOp wu) r') (ha:PE X a ta) (hb:PE X b tb) (hc:PE X c tc)
  (hm:lastMarks [op,wu] [b,c]=false:=by with_unfolding_all rfl):PT X (.Compare a [op,wu] [b,c] pos) (Il (wt r r' ta tb tc)):=by
 intro pins s σ H Q I h
 refine isTrue_chain (bX (ha pins s σ H _ I h) fun v s1 ⟨x,H1,I1,r1,q1⟩=>test_link (bX (hb pins s1 σ H1 _ I1 q1) fun u s2 ⟨y,H2,I2,r2,q2⟩ =>
  bX (ho pins s2 σ H2 x y v u _ I2 r1 r2 q2) fun d s3 ⟨z,H3,I3,r3,k,e,q3⟩=>?_)) hm
 subst e
 cases r3
 refine wpAny_truthy_bool ?_
 cases k with
 | false =>
   obtain ⟨k',e',q'⟩:=q3
   cases e'
   exact ite_ff ⟨H3,I3,q'⟩
 | true =>
   refine ite_tt (test_last (bX (hc pins s3 σ H3 _ I3 q3) fun w' s4 ⟨z',H4,I4,r4,q4⟩=>bX (we pins s4 σ H4 y z' u w' _ I4 r2 r4 q4) fun d' s5 ⟨z2,H5,I5,r5,k2,e2,q5⟩=>?_))
   subst e2
   cases r5
   exact wpAny_truthy_bool ⟨H5,I5,q5⟩
theorem lH:(sizeLine:Nat) < 2 ^ 63:=by rw [sizeLine_eq]; decide
theorem wx:d_ X (binaryOp .Add) (fun x y H Q=>∃ i j,x = .str i∧y = .str j∧i.length+j.length≤sizeLine∧Q (.str (i ++ j)) H):=by
 intro pins s σ H x y v u Q I rx ry h
 obtain ⟨i,j,rfl,rfl,hz,q⟩:=h
 obtain ⟨t,rfl⟩:=rx
 obtain ⟨t',rfl⟩:=ry
 exact add_str (fun t' tk=>⟨.str (i ++ j),H,I.tok _,⟨_,rfl⟩,q⟩) hz
theorem vals1 {x:V} {us:List Value} (r:Vals [x] us):∃ u,us=[u]∧RelV x u:=by
 cases r with
 | cons r1 r2=>cases r2; exact ⟨_,rfl,r1⟩
theorem vals2 {x y:V} {us:List Value} (r:Vals [x,y] us):∃ u w',us=[u,w']∧RelV x u∧RelV y w':=by
 cases r with
 | cons r1 r2 =>
   cases r2 with
   | cons r3 r4=>cases r4; exact ⟨_,_,rfl,r1,r3⟩
end
section
variable {prog:Program} {w:World} {A:Around} {E:Value→Shared→Prop} {s:Shared} {K:PySem.W.Frag} {x dx C f:Addr} {mA:Str→Option Value} {name:Str} {v:Value}
end
theorem jQ.some_of {v:V} {o:Option Value} (r:jQ (some v) o):∃ u,o=some u∧RelV v u:=by
 cases o with
 | none=>exact (show False from r).elim
 | some u=>exact ⟨u,rfl,r⟩
section
variable {P:Program} {w:World} {H H':Hp} {h h':Heap} {a C dx:Addr} {fs Ny:List (Str×V)}
end
structure VQ (K:PySem.W.Frag) (C:Addr):Prop where
 pg:PySem.W.plainGet K C Str.empty=true
 hd:PySem.W.hasDictIn K C=true
 po:PySem.W.plainOver K C=true
 sa:PySem.W.findIn K (.ref C) "__setattr__" = some (some (.builtin "object.__setattr__"))
theorem VQ.get {K:PySem.W.Frag} {C:Addr} (c:VQ K C) (f:Str):PySem.W.plainGet K C f=true:=c.pg
section
variable {X:Cx} {pins:List (Addr×Obj)} {σ:St} {H:Hp} {s:Shared} {a C dx:Addr} {fs:List (Str×V)} {f:Str} {v:V} {A:Around} {E:Value→Shared→Prop}
theorem Inv.made (I:Inv X pins σ H s):Inv X pins σ (upd (upd H s.heap.objs.size (.own (s.heap.objs.size+1))) (s.heap.objs.size+1) (.ins C s.heap.objs.size []))
  { s with heap:=(s.heap.push PySem.W.emptyDict).push (PySem.W.instObj C s.heap.objs.size) }:=by
 have e1:(s.heap.push PySem.W.emptyDict).get? s.heap.objs.size=some PySem.W.emptyDict:=nE s.heap rfl
 have e2:((s.heap.push PySem.W.emptyDict).push (PySem.W.instObj C s.heap.objs.size)).get? (s.heap.objs.size+1)=some (PySem.W.instObj C s.heap.objs.size):=by
  have:=nE (s.heap.push PySem.W.emptyDict) (o:=PySem.W.instObj C s.heap.objs.size) rfl
  rwa [wc] at this
 have e3:(s.heap.push PySem.W.emptyDict).Ns s.heap.objs.size (fun _=>none):=⟨PySem.W.emptyDict,#[],_,e1,rfl,(fun e he=>absurd he (by simp)),fun _=>rfl⟩
 have I1:=I.laid (a:=s.heap.objs.size) (o:=.own (s.heap.objs.size+1)) (h':=s.heap.push PySem.W.emptyDict) (t':=s.toks) (fun b u q=>de _ q) (dX _) ⟨_,e1⟩
 refine I1.laid (a:=s.heap.objs.size+1) (o:=.ins C s.heap.objs.size []) (t':=s.toks) (fun b u q=>de _ q) (Nat.le_of_eq (wc _ _)) ?_
 have ne:s.heap.objs.size≠s.heap.objs.size+1:=gF (Jy _)
 refine ⟨by rw [aE ne,aT],km _,ne,e2,fun _=>none,(Heap.Ns1.of_empty e3).at fun o q=>de _ q,fun _=>True.intro,fun y hy=>absurd rfl hy⟩
theorem Fu {prog:Program} {w:World} {env:Env} {e:Expr} {f:Str} {pos:Pos} {s:Shared} {Q:Value→Shared→Prop} (hb:attributeBase e f env (eval e env)=eval e env)
  (h:wpAny (model prog w) A (eval e env) (fun o s₁=>wpAny (model prog w) A (getAttr o f true) Q E s₁) E s):wpAny (model prog w) A (eval (.Attribute e f pos) env) Q E s :=
 Attribute_any_ h (by rw [arm_eval_Attribute,hb])
end
section
variable {X:Cx} {o e value:Expr} {f:Str} {pos pos' qg:Pos} {ta tv:TE}
end
section
variable {X:Cx} {pins:List (Addr×Obj)} {σ:St} {H:Hp} {s:Shared} {A:Around} {E:Value→Shared→Prop} {Q:Value→Shared→Prop} {c:Value} {b:Bool}
end
structure bp (k:Nat) (A:Around):Prop where
 hd:A.handled=none
 dp:A.depth+3 * k+5 < recursionLimit
 un:A.units+16 * k+200 < cLine
theorem bp.mono {j k:Nat} {A:Around} (r:bp k A) (h:j≤k):bp j A:=⟨r.hd,by have:=r.dp; omega,by have:=r.un; omega⟩
theorem bp.deeper {k:Nat} {A:Around} (r:bp (k+1) A) (env:Env):bp k (A.deeper env) :=
 ⟨r.hd,by have:=r.dp; show A.depth+1+3 * k+5 < _; omega,by have:=r.un; show A.units+3+16 * k+200 < _; omega⟩
theorem bp.in1 {k:Nat} {A:Around} (r:bp (k+1) A):bp k A.in1 :=
 ⟨r.hd,by have:=r.dp; show A.depth+3 * k+5 < _; omega,by have:=r.un; show A.units+1+16 * k+200 < _; omega⟩
theorem wy {A:Around} {C:Addr} {us:List Value} {kw:List (Str×Value)}:(A.under (.builtin "type.__call__" ⟨.ref C :: us,kw⟩)).depth=A.depth+1:=by
 first | rfl | simp [Around.under,Code.weight,Code.isCreation,Code.isGuard,Code.isCaller,Code.frames,Code.isFrame,guardIds]
theorem wz {A:Around} {C:Addr} {us:List Value} {kw:List (Str×Value)}:(A.under (.builtin "type.__call__" ⟨.ref C :: us,kw⟩)).units=A.units+1:=by
 first | rfl | simp [Around.under,Code.cUnits,Code.frames,Code.isFrame]
theorem bp.make {k:Nat} {A:Around} (r:bp (k+1) A) (C:Addr) (us:List Value) (kw:List (Str×Value)):bp k (A.under (.builtin "type.__call__" ⟨.ref C :: us,kw⟩)) :=
 ⟨r.hd,by have:=r.dp; rw [wy]; omega,by have:=r.un; rw [wz]; omega⟩
theorem bp.depth {k:Nat} {A:Around} (r:bp k A):A.depth < recursionLimit:=by have:=r.dp; omega
theorem bp.units {k:Nat} {A:Around} (r:bp k A):A.units+64 < cLine:=by have:=r.un; omega
def NW:TA:=fun _ H Q=>Q [] H
def Im (ta:TE) (tr:TA):TA:=fun σ H Q=>ta σ H fun x H1=>tr σ H1 fun xs H2=>Q (x :: xs) H2
section
variable {X:Cx} {e:Expr} {es:List Expr} {te:TE} {t:TA} {pos:Pos}
theorem cX:PA X [] NW:=fun _ _ _ _ H Q I h=>Calls.spliced_nil ⟨[],H,I,.nil,h⟩
theorem bw (ha:PE X e te) (hr:PA X es t) (hs:starEach (e :: es) X.env=(false,eval e X.env) :: starEach es X.env:=by rfl):PA X (e :: es) (Im te t):=by
 intro pos pins s σ H Q I h
 rw [hs]
 show wpAny _ _ (spliced ((false,eval e X.env) :: backTo pos (starEach es X.env))) _ _ s
 refine Calls.spliced_cons (bX (ha pins s σ H _ I h) fun u s1 ⟨x,H1,I1,r1,q1⟩=>?_)
 exact bX (hr pos pins s1 σ H1 _ I1 q1) fun us s2 ⟨xs,H2,I2,r2,q2⟩=>⟨x :: xs,H2,I2,.cons r1 r2,q2⟩
def SH (t:TA):TE:=fun σ H Q=>t σ H fun xs H1=>xs.length≤sizeLine∧∀ p,H1 p=none→Q (.ref p) (upd H1 p (.tup xs))
def SI (t:TA):TE:=fun σ H Q=>t σ H fun xs H1=>xs.length≤sizeLine∧∀ p,H1 p=none→Q (.ref p) (upd H1 p (.lst xs))
theorem Kl {x1} (h:PA X es t):PE X (.Tuple es x1 pos) (SH t):=by
 intro pins s σ H Q I hq
 refine wpAny_Tuple_spliced (bX (h pos pins s σ H _ I hq) fun us s1 ⟨xs,H1,I1,r,z,q⟩=>⟨by rw [← r.length]; exact z,?_⟩)
 have hf:H1 s1.heap.objs.size=none:=I1.bC.fresh (dX _)
 refine ⟨.ref s1.heap.objs.size,upd H1 s1.heap.objs.size (.tup xs),I1.laid (t':=s1.toks) (fun b u e=>de _ e) (dX _) ?_,rfl,q _ hf⟩
 exact ⟨z,us,r,⟨_,nE _ rfl,rfl,_,rfl⟩⟩
theorem Km (h:PA X es t):PE X (.List es pos) (SI t):=by
 intro pins s σ H Q I hq
 refine wpAny_List_spliced (bX (h pos pins s σ H _ I hq) fun us s1 ⟨xs,H1,I1,r,z,q⟩=>⟨by rw [← r.length]; exact z,?_⟩)
 have hf:H1 s1.heap.objs.size=none:=I1.bC.fresh (dX _)
 refine ⟨.ref s1.heap.objs.size,upd H1 s1.heap.objs.size (.lst xs),I1.laid (t':=s1.toks) (fun b u e=>de _ e) (dX _) ?_,rfl,q _ hf⟩
 exact ⟨z,us,0,r,nE _ rfl⟩
end
abbrev Sp:=List V→Hp→VK→XK→Prop
abbrev wA:=List Env→Hp→Shared→XK→Value→Shared→Prop
structure qh (P:Program) (w:World) (K:PySem.W.Frag) (mg:Str→Option Value) (base:Heap) (A:Around) (outer:List Env) (s:Shared) (H:Hp):Prop where
 frames:A.frames=some outer
 mod:Mod K mg base
 bs:∀ b o,base.get? b=some o→s.heap.get? b=some o∧H b=none
 Bv:base.objs.size≤s.heap.objs.size
 ko:s.heap.FunFrames base outer
 Ff:∀ b∈kn outer,H b=none
 bC:jD P w H s.heap
 bare:AllBare s.gens
def CE (outer:List Env) (P:Program) (w:World) (H:Hp) (s:Shared) (Q:VK) (u:Value) (s':Shared):Prop :=
 ∃ v H',s'.os=s.os∧AllBare s'.gens∧Un (kn outer) [] H H' s.heap s'.heap∧jD P w H' s'.heap∧RelV v u∧Q v H'
def CR (CX:wA) (outer:List Env) (P:Program) (w:World) (H:Hp) (s:Shared) (Q:VK) (E:XK) (r:Result) (s':Shared):Prop :=
 match r with
 | .ok (.ret u)=>CE outer P w H s Q u s'
 | .ok _=>False
 | .error e=>CX outer H s E e s'
structure cN (P:Program) (w:World) (K:PySem.W.Frag) (mg:Str→Option Value) (base:Heap) (CX:wA) (k:Nat) (f:Addr) (fd:FuncData) (ps:List Str) (sp:Sp):Prop where
 len:∀ vs H Q E,sp vs H Q E→vs.length=ps.length
 run:∀ (A:Around) (outer:List Env) (s:Shared) (H:Hp) (args:Args) (us:List Value) (vs:List V) (Q:VK) (E:XK),bp k A→qh P w K mg base A outer s H→BindsTo s fd args (ps.zip us)→Vals vs us→sp vs H Q E →
  codeAny (model P w) A (.call (.ref f) args) (CR CX outer P w H s Q E) s
theorem cN.mono {P:Program} {w:World} {K:PySem.W.Frag} {mg:Str→Option Value} {base:Heap} {CX:wA} {j k:Nat} {f:Addr} {fd:FuncData} {ps:List Str} {sp:Sp} (F:cN P w K mg base CX j f fd ps sp) (h:j≤k) :
 cN P w K mg base CX k f fd ps sp:=⟨F.len,fun A outer s H args us vs Q E hr=>F.run A outer s H args us vs Q E (hr.mono h)⟩
theorem cN.imp {P:Program} {w:World} {K:PySem.W.Frag} {mg:Str→Option Value} {base:Heap} {CX:wA} {k:Nat} {f:Addr} {fd:FuncData} {ps:List Str} {sp VU:Sp} (F:cN P w K mg base CX k f fd ps sp)
  (h:∀ vs H Q E,VU vs H Q E→sp vs H Q E):cN P w K mg base CX k f fd ps VU :=
 ⟨fun vs H Q E q=>F.len vs H Q E (h _ _ _ _ q),fun A outer s H args us vs Q E hr he hb hv hs=>F.run A outer s H args us vs Q E hr he hb hv (h _ _ _ _ hs)⟩
theorem qh.make {P:Program} {w:World} {K:PySem.W.Frag} {mg:Str→Option Value} {base:Heap} {A:Around} {outer:List Env} {s:Shared} {H:Hp} (e:qh P w K mg base A outer s H) (C:Addr) (us:List Value) (kw:List (Str×Value)) :
 qh P w K mg base (A.under (.builtin "type.__call__" ⟨.ref C :: us,kw⟩)) outer s H:=⟨by first | exact e.frames | (simpa [Around.under,Code.envs,Code.isFrame,pushEnvs] using e.frames),e.mod,e.bs,e.Bv,e.ko,e.Ff,e.bC,e.bare⟩
theorem qh.in1 {P:Program} {w:World} {K:PySem.W.Frag} {mg:Str→Option Value} {base:Heap} {A:Around} {outer:List Env} {s:Shared} {H:Hp} (e:qh P w K mg base A outer s H) :
 qh P w K mg base A.in1 outer s H:=⟨e.frames,e.mod,e.bs,e.Bv,e.ko,e.Ff,e.bC,e.bare⟩
section
variable {X:Cx} {pins:List (Addr×Obj)} {σ:St} {H:Hp} {s s':Shared}
theorem Inv.Kn (I:Inv X pins σ H s):qh X.prog X.w X.K X.mg X.base X.A X.stack s H :=
 ⟨I.ok.frames,I.ok.mod,I.bs,mD I.ok.Bv I.sz,I.stack,I.nG,I.bC,I.bare⟩
theorem Inv.after {Q:VK} {u:Value} (I:Inv X pins σ H s) (h:CE X.stack X.prog X.w H s Q u s'):EP X pins σ Q u s':=by
 obtain ⟨v,H',os,bare,un,bC,r,q⟩:=h
 obtain ⟨hh,g,d,t,NX⟩:=s'
 obtain rfl:NX=s.os:=os
 exact ⟨v,H',I.call (h':=hh) (g':=g) (d':=d) (t':=t) (ch:=[]) un bC bare (fun b z=>absurd z (by simp)),r,q⟩
end
def NY (sp:Sp) (Fv:List V) (E:XK) (t:TA):TE:=fun σ H Q=>t σ H fun vs H1=>sp (vs ++ Fv) H1 Q E
def Binds (K:PySem.W.Frag) (fd:FuncData) (ps:List Str) (ds:List Value):Prop :=
 ∀ (s:Shared) (us:List Value),K.In s.heap→(us ++ ds).length=ps.length→BindsTo s fd ⟨us,[]⟩ (ps.zip (us ++ ds))
theorem Binds.all {K:PySem.W.Frag} {fd:FuncData} {ps:List Str} (h:∀ us:List Value,us.length=ps.length→bindArgs fd ⟨us,[]⟩=pure (ps.zip us)):Binds K fd ps []:=fun s us _ hl=>by
 rw [EL] at hl ⊢
 exact .of_eq (h us hl)
def Passes (CX:wA) (X:Cx) (E:XK):Prop:=∀ (pins:List (Addr×Obj)) (σ:St) (H:Hp) (s:Shared) (e:Value) (s':Shared),Inv X pins σ H s→CX X.stack H s E e s'→X.xe e s'
section
variable {X:Cx} {CX:wA} {k:Nat} {f C:Addr} {fd:FuncData} {ps:List Str} {sp:Sp} {Fv:List V} {ds:List Value} {E:XK} {x m:Str} {p pos apos:Pos} {e o:Expr} {es:List Expr} {ta:TE} {t:TA}
theorem B0 {pins:List (Addr×Obj)} {σ:St} {H:Hp} {s:Shared} {Q:VK} {us:List Value} {vs:List V} (F:cN X.prog X.w X.K X.mg X.base CX k f fd ps sp) (hr:bp k X.A) (hb:Binds X.K fd ps ds) (hd:Vals Fv ds) (hx:Passes CX X E)
  (I:Inv X pins σ H s) (r:Vals vs us) (h:sp (vs ++ Fv) H Q E):wpAny (model X.prog X.w) X.A (call (.ref f) us) (EP X pins σ Q) X.xe s:=by
 have r2:Vals (vs ++ Fv) (us ++ ds):=r.append hd
 have hl:(us ++ ds).length=ps.length:=by rw [← r2.length]; exact F.len _ _ _ _ h
 refine wpAny_call (codeAny_mono (F.run X.A X.stack s H ⟨us,[]⟩ (us ++ ds) (vs ++ Fv) Q E hr I.Kn (hb s us I.lq hl) r2 h) fun r s' hq=>?_)
 cases r with
 | error e=>exact hx pins σ H s e s' I hq
 | ok fl =>
   cases fl with
   | ret u=>exact I.after hq
   | _=>exact False.elim hq
theorem ku (F:cN X.prog X.w X.K X.mg X.base CX k f fd ps sp) (hr:bp k X.A) (hg:Gl X x) (hm:X.mg x=some (.ref f)) (hk:PySem.W.keepIn X.K (.ref f)=true) (hb:Binds X.K fd ps ds) (hd:Vals Fv ds) (hx:Passes CX X E)
  (ha:PA X (e :: es) t) (n6:gg x:=by decide) (he:starEach (e :: es) X.env=(false,eval e X.env) :: starEach es X.env:=by rfl) (fE:(backTo pos (starEach es X.env)).any (·.1)=false:=by rfl) :
  PE X (.Call (.Name x p) (e :: es) [] pos) (NY sp Fv E t):=by
 intro pins s σ H Q I h
 refine wpAny_Call_Name_kw (jf I hg hm ?_ n6)
 refine Q2 (h₀:=X.base) I.ok.mod.M5 hk (bX (ha pos pins s σ H _ I h) fun us s1 ⟨vs,H1,I1,r,q⟩=>⟨I1.lq,?_⟩) he fE
 exact B0 F hr hb hd hx I1 r q
structure Mk (K:PySem.W.Frag) (C f:Addr):Prop where
 makes:PySem.W.makesIn K C=true
 init:PySem.W.findIn K (.ref C) "__init__" = some (some (.ref f))
 fn:PySem.W.isFn K (.ref f)=true
 kp:PySem.W.keepIn K (.ref C)=true
end
section
variable {X:Cx} {CX:wA} {k:Nat} {f C:Addr} {fd:FuncData} {ps ks:List Str} {sp:Sp} {E:XK} {x m:Str} {p pos apos SJ:Pos} {e o:Expr} {es:List Expr} {W4:List Keyword} {te ta:TE} {t tk:TA} {nm:Option Str}
variable {g:List Value→List Value→List Value} {gV:List V→List V→List V}
end
structure aI (N P:List Str) (sc:Scope):Prop where
 kind:sc.kind = .function
 co:sc.isCoroutine=false
 gen:sc.isGenerator=false
 nd:N.Nodup
 pre:N.take P.length=P
 par:∀ x∈P,sc.names.lookup x=some .local∨sc.names.lookup x=some .cell
 Ko:∀ y∈sc.names,y.2≠.free
theorem gI {N P:List Str} {sc:Scope} (a:sc.kind=.function:=by rfl) (b:sc.isCoroutine=false:=by rfl) (c:sc.isGenerator=false:=by rfl) (d:N.Nodup:=by decide +kernel) (e:N.take P.length=P:=by rfl) (f:∀ x∈P,sc.names.lookup x=some .local∨sc.names.lookup x=some .cell:=by decide +kernel) (g:∀ y∈sc.names,y.2≠.free:=by decide +kernel):aI N P sc:=⟨a,b,c,d,e,f,g⟩
theorem qW {kindOf:Str→Option NameKind} {x:Str}:∀ {binds:List (Str×Value)} {m:Str→Option Value},(∀ v,(x,v)∉binds)→bindL kindOf binds m x=m x
 | [],_,_=>rfl
 | (n,v) :: r,m,h=>by
   unfold bindL
   rw [qW fun w hw=>h w (jC _ hw)]
   split
   · have:x≠n:=by rintro rfl; exact h v ij
     simp [this]
   · rfl
theorem qX {kindOf:Str→Option NameKind} {x:Str}:∀ {binds:List (Str×Value)} {m:Str→Option Value},(∀ v,(x,v)∉binds)→bindC kindOf binds m x=m x
 | [],_,_=>rfl
 | (n,v) :: r,m,h=>by
   unfold bindC
   rw [qX fun w hw=>h w (jC _ hw)]
   split
   · rfl
   · have:x≠n:=by rintro rfl; exact h v ij
     simp [this]
theorem qY {kindOf:Str→Option NameKind} {x:Str} {v:Value}:∀ {P:List Str} {vs:List Value} {i:Nat} {m:Str→Option Value},P.Nodup→P[i]?=some x→vs[i]?=some v→kindOf x=some .local →
  bindL kindOf (P.zip vs) m x=some v
 | [],_,_,_,_,h,_,_=>by simp at h
 | _ :: _,[],_,_,_,_,h,_=>by simp at h
 | p :: P,w :: vs,0,m,nd,h1,h2,hk=>by
   simp at h1 h2; subst h1; subst h2
   show bindL kindOf ((p,w) :: P.zip vs) m p=_
   unfold bindL
   rw [qW fun v hv=>(qe.mp nd).1 (List.of_mem_zip hv).1,if_pos hk]
   simp
 | p :: P,w :: vs,i+1,m,nd,h1,h2,hk=>by
   show bindL kindOf ((p,w) :: P.zip vs) m x=_
   unfold bindL
   exact qY (i:=i) (qe.mp nd).2 (by simpa using h1) (by simpa using h2) hk
theorem qZ {kindOf:Str→Option NameKind} {x:Str} {v:Value}:∀ {P:List Str} {vs:List Value} {i:Nat} {m:Str→Option Value},P.Nodup→P[i]?=some x→vs[i]?=some v→kindOf x≠some .local →
  bindC kindOf (P.zip vs) m x=some v
 | [],_,_,_,_,h,_,_=>by simp at h
 | _ :: _,[],_,_,_,_,h,_=>by simp at h
 | p :: P,w :: vs,0,m,nd,h1,h2,hk=>by
   simp at h1 h2; subst h1; subst h2
   show bindC kindOf ((p,w) :: P.zip vs) m p=_
   unfold bindC
   rw [qX fun v hv=>(qe.mp nd).1 (List.of_mem_zip hv).1,if_neg hk]
   simp
 | p :: P,w :: vs,i+1,m,nd,h1,h2,hk=>by
   show bindC kindOf ((p,w) :: P.zip vs) m x=_
   unfold bindC
   exact qZ (i:=i) (qe.mp nd).2 (by simpa using h1) (by simpa using h2) hk
def start (N:List Str) (vs:List V):St:=vs.map some ++ List.replicate (N.length - vs.length) none
def dI (CX:wA) (P:Program) (w:World) (K:PySem.W.Frag) (mg:Str→Option Value) (base:Heap) (N:List Str) (qual:Str) (scope:Scope) (f:Addr) (cd:Value) (A:Around) (outer:List Env) (s:Shared) (H:Hp) (E:XK):Cx where
 prog:=P
 w:=w
 K:=K
 mg:=mg
 base:=base
 A:=A.deeper (envOfC qual scope s.heap.objs.size f cd)
 N:=N
 s₀:=s
 H₀:=H
 env:=envOfC qual scope s.heap.objs.size f cd
 outer:=outer
 stack:=envOfC qual scope s.heap.objs.size f cd :: outer
 ex:=[]
 calm:=true
 fn:=fun _=>true
 pn:=[]
 xe:=fun e s'=>wpAny (model P w) (A.deeper (envOfC qual scope s.heap.objs.size f cd)) (leaving (envOfC qual scope s.heap.objs.size f cd) e) (fun _ Kq=>CX outer H s E e Kq) (fun e' Kq=>CX outer H s E e' Kq) s'
theorem uu {sc:Scope} {n:Nat} {x:Str} (h:sc.names.lookup x=some .cell):∃ c,(cellsFrom n sc.names []).lookup x=some c:=by
 have q:=PySem.W.cellsFrom_some sc.names n [] (.inl h)
 exact R3.mp q
theorem zK {CX:wA} {P:Program} {w:World} {K:PySem.W.Frag} {mg:Str→Option Value} {base:Heap} {N ps:List Str} {qual:Str} {scope:Scope} {f:Addr} {cd:Value} {A:Around} {outer:List Env} {s s1:Shared} {H:Hp} {E:XK} {us:List Value} {vs:List V}
  (S:aI N ps scope) (hd:A.handled=none) (e0:qh P w K mg base A outer s H) (hl:vs.length=ps.length) (r:Vals vs us)
  (x:InCallC s s.heap.objs.size (bindL (envOfC qual scope s.heap.objs.size f cd).kindOf (ps.zip us) fun _=>none) (cellsFrom (s.heap.objs.size+1) scope.names []) (bindC (envOfC qual scope s.heap.objs.size f cd).kindOf (ps.zip us) fun _=>none) s1) :
  Inv (dI CX P w K mg base N qual scope f cd A outer s H E) [] (start N vs) H s1:=by
 have fE:ps.length≤N.length:=by have:=congrArg List.length S.pre; rw [MX] at this; omega
 obtain ⟨h1,tk,rfl,hk⟩:=x.done
 have NZ:∀ b:Addr,b∉(dI CX P w K mg base N qual scope f cd A outer s H E).ex:=fun b z=>absurd (show b∈([]:List Addr) from z) (by simp)
 refine ⟨⟨e0.mod,S.kind,rfl,rfl,dX _,fun y z c h1 h2=>?_,fun y hy=>?_,fun y c _ h=>?_,fun _=>hd,Around.frames_deeper e0.frames,.inr ⟨rfl,rfl⟩,fun b z=>absurd z (NZ b),e0.bs,e0.Bv,fun b _ _=>NZ b,fun b z=>absurd z (NZ b),e0.ko,e0.Ff⟩,
  rfl,e0.bare,Un.kept hk,⟨_,x.toInCall.ns,fun i y v h1 h2 h3=>?_⟩,fun y c h=>⟨_,x.cell y c h⟩,e0.bC.fresh (dX _),fun y c h=>?_,fun p hp=>absurd (show p∈([]:List (Addr×Obj)) from hp) (by simp),e0.bC.kept hk,?_⟩
 · exact name_of_addr x.apart (H_ h1) (H_ h2)
 · have hy:scope.names.lookup y=some .cell∨scope.names.lookup y=some .free:=hy
   rcases hy with hy | hy
   · exact uu hy
   · exact absurd rfl (S.Ko _ (H_ hy))
 · exact Nat.le_of_lt (x.above y c (H_ h))
 · have hi:i < vs.length:=by
    unfold start at h2
    by_cases hi:i < vs.length
    · exact hi
    · rw [BH (by simpa using hi)] at h2
      rw [Js] at h2
      split at h2 <;> cases h2
   have ha:vs[i]?=some v:=by
    unfold start at h2
    rw [uh (by simpa using hi),ly] at h2
    cases e:vs[i]? with
    | none=>rw [e] at h2; cases h2
    | some a=>rw [e] at h2; cases h2; rfl
   obtain ⟨u,hu,rv⟩:=r.get ha
   have hp:ps[i]?=some y:=by
    rw [← S.pre,List.getElem?_take_of_lt (by omega)]; exact h1
   have VY:ps.Nodup:=by rw [← S.pre]; exact S.nd.sublist (List.take_sublist _ _)
   refine ⟨u,rv,?_⟩
   rcases S.par y (mW hp) with k | k
   · exact .inl ⟨k,qY VY hp hu k⟩
   · obtain ⟨c,e⟩:=uu (n:=s.heap.objs.size+1) k
     refine .inr ⟨.inl k,c,e,?_⟩
     have q:=x.cell y c e
     rw [qZ VY hp hu (by show scope.names.lookup y≠_; rw [k]; decide)] at q
     exact q
 · exact e0.bC.fresh (Nat.le_of_lt (x.above y c (H_ h)))
 · unfold start
   show _=N.length
   rw [qd,bZ,E_]
   omega
theorem Io {CX:wA} {P:Program} {w:World} {K:PySem.W.Frag} {mg:Str→Option Value} {base:Heap} {k:Nat} {f:Addr} {name qual:Str} {params:Arguments} {body:List Stmt} {scope:Scope} {dV kV doc pm bD ct oc:Value} {an od:Option Addr}
  {yy:Array (Option Value)} {N ps:List Str} {sp:Sp} (lk:K.lookup f=some ⟨oc,od,.func (PySem.W.fnOf name qual params body scope dV kV doc pm an bD ct),yy⟩) (iB:PySem.W.codeIn K bD qual=true) (S:aI N ps scope)
  (len:∀ vs H Q E,sp vs H Q E→vs.length=ps.length)
  (iJ:∀ (A:Around) (outer:List Env) (s:Shared) (H:Hp) (vs:List V) (Q:VK) (E:XK),bp k (A.deeper (envOfC qual scope s.heap.objs.size f bD))→sp vs H Q E →
    ∃ t,nH (dI CX P w K mg base N qual scope f bD A outer s H E) body t∧t { nx:=fun _ H'=>Q .bu H',rt:=Q } (start N vs) H) :
  cN P w K mg base CX (k+1) f (PySem.W.fnOf name qual params body scope dV kV doc pm an bD ct) ps sp:=by
 refine ⟨len,fun A outer s H args us vs Q E hr e0 hb r Ip=>?_⟩
 have hl:=len _ _ _ _ Ip
 have KX:K.In s.heap:=e0.mod.M5.keeps fun b o e=>(e0.bs b o e).1
 have lim:s.heap.NoLimit:=e0.mod.nolimit.keeps fun b o e=>(e0.bs b o e).1
 have N0:∀ y∈ps.zip us,scope.names.lookup y.1=some .local∨(scope.names.lookup y.1=some .cell∧((cellsFrom (s.heap.objs.size+1) scope.names []).lookup y.1).isSome=true):=fun ⟨n,v⟩ hy=>by
  rcases S.par n (List.of_mem_zip hy).1 with q | q
  · exact .inl q
  · exact .inr ⟨q,PySem.W.cellsFrom_some _ _ _ (.inl q)⟩
 refine codeAny_call_function hr.depth (KX _ _ lk) rfl S.co S.gen rfl (PySem.W.codeRec_of KX iB) (hb _ _ _ _ ?_)
 refine wpAny_newFunctionEnv_cells S.kind N0 fun env he s1 x=>?_
 subst he
 refine ⟨lim.keeps x.toInCall.keep,codeAny_func ?_⟩
 obtain ⟨t,ht,hq⟩:=iJ A outer s H vs Q E (hr.deeper _) Ip
 have I:Inv (dI CX P w K mg base N qual scope f bD A outer s H E) [] (start N vs) H s1:=zK S hr.hd e0 hl r x
 refine wpAny_mono (ht [] s1 (start N vs) H _ I hq) (fun fl s' hs=>?_) fun e s' hs=>hs
 have fin:∀ {σ':St} {H':Hp} {v:V} {u:Value},Inv (dI CX P w K mg base N qual scope f bD A outer s H E) [] σ' H' s'→RelV v u→Q v H'→CE outer P w H s Q u s' :=
  fun {σ' H' v u} J rv q=>⟨v,H',J.os,J.bare,J.base,J.bC,rv,q⟩
 cases fl with
 | ret u =>
   obtain ⟨v,σ',H',J,rv,q⟩:=hs
   exact fin J rv q
 | next =>
   obtain ⟨σ',H',J,q⟩:=hs
   exact fin (v:=V.bu) (u:=Value.none) J rfl q
 | brk =>
   obtain ⟨_,_,_,q⟩:=hs
   exact False.elim q
 | cont =>
   obtain ⟨_,_,_,q⟩:=hs
   exact False.elim q
section
variable {X:Cx} {x:Str} {p pos:Pos} {e:Expr} {es:List Expr} {t:TA} {id T:String} {r:List V→Hp→VK→Prop}
def VZ (r:List V→Hp→VK→Prop) (t:TA):TE:=fun σ H Q=>t σ H fun vs H1=>r vs H1 Q
theorem kx (hc:c_ X (.builtin id) r) (hg:Gl X x) (hm:X.mg x=none) (hv:bootBuiltins x=some (.builtin id)) (ha:PA X (e :: es) t) (hn:x≠"__name__":=by decide) (n6:gg x:=by decide)
  (he:starEach (e :: es) X.env=(false,eval e X.env) :: starEach es X.env:=by rfl) (fE:(backTo pos (starEach es X.env)).any (·.1)=false:=by rfl):PE X (.Call (.Name x p) (e :: es) [] pos) (VZ r t):=by
 intro pins s σ H Q I h
 refine wpAny_Call_Name_kw (jR I hg hm hv ?_ hn n6)
 exact PyProof.Rows.callWith_builtin1 (bX (ha pos pins s σ H _ I h) fun us s1 ⟨vs,H1,I1,r1,q1⟩=>hc pins s1 σ H1 vs us Q I1 r1 q1) he fE
theorem q8 (hc:c_ X (.type T) r) (hg:Gl X x) (hm:X.mg x=none) (hv:bootBuiltins x=some (.type T)) (ha:PA X (e :: es) t) (hn:x≠"__name__":=by decide) (n6:gg x:=by decide)
  (he:starEach (e :: es) X.env=(false,eval e X.env) :: starEach es X.env:=by rfl) (fE:(backTo pos (starEach es X.env)).any (·.1)=false:=by rfl):PE X (.Call (.Name x p) (e :: es) [] pos) (VZ r t):=by
 intro pins s σ H Q I h
 refine wpAny_Call_Name_kw (jR I hg hm hv ?_ hn n6)
 exact QO (bX (ha pos pins s σ H _ I h) fun us s1 ⟨vs,H1,I1,r1,q1⟩=>hc pins s1 σ H1 vs us Q I1 r1 q1) he fE
end
end L2
namespace HT
open PySem PyProof.Rows
section
open PySem.SeqAt
open PySem.AutoSeq1 (wpAny_loadPart')
open PySem.MeetsSeq PySem.MeetsSeq2 PySem.MeetsSeq3
end
section
variable {prog:Program} {w:World} {A:Around} {E:Value→Shared→Prop} {s:Shared}
theorem Fw {t b:Addr} {vs ws:List Value} {Q:Value→Shared→Prop} (ht:IsTup s.heap t vs.toArray) (hb:IsTup s.heap b ws.toArray) (hv:vs≠[])
  (h1:ws=[]→Q (.ref t) s) (h2:ws≠[]→Q (.ref s.heap.objs.size) { s with heap:=s.heap.push { cls:=.type "tuple",data:=.seq (vs ++ ws).toArray } })
  (q9:vs.length+ws.length≤sizeLine):wpAny (model prog w) A (binaryOp .Add (.ref t) (.ref b)) Q E s:=by
 obtain ⟨⟨cls,dd,data,sl⟩,ho,hc,n,hd⟩:=id ht
 obtain ⟨⟨N1,M8,data2,yz⟩,By,Bz,n2,hd2⟩:=id hb
 simp only at hc hd Bz hd2
 subst hc hd Bz hd2
 have e:vs.toArray ++ ws.toArray=(vs ++ ws).toArray:=by simp
 by_cases hw:ws=[]
 · exact concat_meets ⟨_,ho,rfl⟩ ⟨_,By,rfl⟩ noFill_tuple_add seq_tuple_add R8 R5 (R4 _ _)
    (tuple_addW1 t b vs.toArray ws.toArray n n2 dd M8 sl yz (by simpa using hv) (by simp [hw])) ⟨ho,By,h1 hw⟩
 · refine concat_meets ⟨_,ho,rfl⟩ ⟨_,By,rfl⟩ noFill_tuple_add seq_tuple_add R8 R5 (R4 _ _)
    (tuple_addW2 t b vs.toArray ws.toArray n n2 dd M8 sl yz (by simpa using hv) (by simpa using hw) (by rw [gD,gD]; exact q9)) ⟨ho,By,?_⟩
   rw [e]
   exact h2 hw
def cp (n d:Nat):Option Int→Nat
 | none=>d
 | some v=>if v < 0 then (v+(n:Int)).toNat else min v.toNat n
theorem iK (n d:Nat):cp n d none=d:=rfl
theorem ky (n d k:Nat):cp n d (some (k:Int))=min k n:=by
 show (if (k:Int) < 0 then ((k:Int)+(n:Int)).toNat else min (k:Int).toNat n)=min k n
 rw [if_neg (by omega),Ia]
theorem Kr (n d:Nat) (hd:d≤n) (o:Option Int):cp n d o≤n:=by
 cases o with
 | none=>exact hd
 | some v =>
   show (if v < 0 then (v+(n:Int)).toNat else min v.toNat n)≤n
   by_cases hv:v < 0
   · rw [if_pos hv]; omega
   · rw [if_neg hv]; exact Nat.min_le_right _ _
theorem yA (v:Int) (n d:Nat):(if v < 0 then max (v+(n:Int)) 0 else min v (n:Int))=((cp n d (some v):Nat):Int):=by
 show (if v < 0 then max (v+(n:Int)) 0 else min v (n:Int))=(((if v < 0 then (v+(n:Int)).toNat else min v.toNat n):Nat):Int)
 by_cases hv:v < 0
 · simp only [if_pos hv]; omega
 · simp only [if_neg hv]; omega
theorem wB (lo hi:Option Int) (n:Nat):Builtin.Slice.sliceAdjust lo hi 1 (n:Int)=(((cp n 0 lo:Nat):Int),((cp n n hi:Nat):Int)):=by
 have h1:¬ ((1:Int) < 0):=by omega
 unfold Builtin.Slice.sliceAdjust
 simp only [h1,if_false]
 refine Prod.ext ?_ ?_
 · cases lo with
   | none=>rfl
   | some v=>exact yA v n 0
 · cases hi with
   | none=>rfl
   | some v=>exact yA v n n
theorem wC (i j:Nat):Builtin.Slice.slicePlaces (i:Int) (j:Int) 1=j - i:=by
 unfold Builtin.Slice.slicePlaces
 have h1:(1:Int) > 0:=by omega
 simp only [h1,if_true,Int.ediv_one]
 split <;> omega
theorem n8 {v:Value} {o:Option Int} {Q:Option Int→Shared→Prop} (p:IsPart v o) (h:Q o s):wpAny (model prog w) A (Builtin.Slice.slicePartIndex v) Q E s:=by
 cases p with
 | none=>exact slicePart_none h
 | int i t=>exact slicePart_int h
theorem gh {sl:Addr} {vl vu:Value} {lo hi:Option Int} {n:Nat} {Q:Int×Int×Nat→Shared→Prop} (hs:s.heap.IsSliceOf sl vl vu .none) (pl:IsPart vl lo) (pu:IsPart vu hi)
  (h:Q (((cp n 0 lo:Nat):Int),1,cp n n hi - cp n 0 lo) s):wpAny (model prog w) A (Builtin.Slice.sliceApplied (.ref sl) (pure (n:Int))) Q E s:=by
 obtain ⟨os,Ks,Rf,N2⟩:=id hs
 unfold Builtin.Slice.sliceApplied Builtin.Slice.sliceFields
 refine wpAny_bind (wpAny_bind (wpAny_field Ks N2 (x:=vl) rfl (wpAny_bind (wpAny_field Ks N2 (x:=vu) rfl (wpAny_bind (wpAny_field Ks N2 (x:=.none) rfl (wpAny_pure ?_)))))))
 refine wpAny_bind (slicePart_none ?_)
 show wpAny _ _ (if ((1:Int) == 0)=true then _ else _) _ _ s
 rw [if_neg (by decide)]
 refine wpAny_bind (n8 pl (wpAny_bind (n8 pu (wpAny_bind (wpAny_pure ?_)))))
 show wpAny _ _ (match Builtin.Slice.sliceAdjust lo hi 1 (n:Int) with | (lo,hi)=>pure (lo,(1:Int),Builtin.Slice.slicePlaces lo hi 1)) _ _ s
 rw [wB lo hi n]
 show wpAny _ _ (pure (((cp n 0 lo:Nat):Int),(1:Int),Builtin.Slice.slicePlaces ((cp n 0 lo:Nat):Int) ((cp n n hi:Nat):Int) 1)) _ _ s
 rw [wC]
 exact wpAny_pure h
theorem B1 (xs:Array Value) (i k:Nat):((List.range k).filterMap fun (m:Nat)=>xs[((i:Int)+(m:Int) * 1).toNat]?).toArray=((xs.toList.drop i).take k).toArray:=by
 have e:(fun (m:Nat)=>xs[((i:Int)+(m:Int) * 1).toNat]?)=fun m=>xs[i+m]?:=by
  funext m
  have:((i:Int)+(m:Int) * 1).toNat=i+m:=by omega
  rw [this]
 rw [e]
 have:=pick_run xs i k
 rw [List.filterMap_map] at this
 have e2:((fun x=>xs[x]?) ∘ fun x=>i+x)=fun m=>xs[i+m]?:=rfl
 rw [e2] at this
 rw [this]
theorem kz {t sl:Addr} {items:Array Value} {vl vu:Value} {lo hi:Option Int} {Q:Value→Shared→Prop} (ht:IsTup s.heap t items) (hs:s.heap.IsSliceOf sl vl vu .none) (pl:IsPart vl lo) (pu:IsPart vu hi)
  (hw:¬ (cp items.size 0 lo=0∧cp items.size items.size hi=items.size))
  (h:Q (.ref s.heap.objs.size) { s with heap:=s.heap.push { cls:=.type "tuple",data:=.seq ((items.toList.drop (cp items.size 0 lo)).take (cp items.size items.size hi - cp items.size 0 lo)).toArray } })
  (q9:items.size≤sizeLine):wpAny (model prog w) A (getItem (.ref t) (.ref sl)) Q E s:=by
 have yB:sizeOk (.seq ((items.toList.drop (cp items.size 0 lo)).take (cp items.size items.size hi - cp items.size 0 lo)).toArray):=by
  show ((items.toList.drop (cp items.size 0 lo)).take (cp items.size items.size hi - cp items.size 0 lo)).toArray.size≤sizeLine
  rw [gD,MX,Nv,MV]
  omega
 have hj:cp items.size items.size hi≤items.size:=Kr _ _ (dX _) hi
 obtain ⟨os,Ks,Rf,N2⟩:=id hs
 have SK:s.TypeIs (.ref sl) "slice":=⟨os,Ks,Rf⟩
 unfold getItem
 try with_reducible refine wpAny_holding ?_
 first | refine wpAny_bind (wpAny_pure ?_) | skip
 refine wpAny_bind (wpAny_sequenceKey ht.typeIs (by decide) ?_)
 refine wpAny_bind (wpAny_callSpecial?_slot (name:=Str.ofString "__getitem__") ht.typeIs MS
  (wpAny_call_entry MS ht.typeIs entry_tuple_getitem ?_ (args_tuple_getitem _ _)))
 show wpAny _ _ (Builtin.Tuple.tupleItemsOf (.ref t) >>= _) _ _ s
 refine wpAny_bind (tupleItemsOf_ ht ?_)
 refine wpAny_bind (wpAny_typeOf SK ?_)
 rw [if_pos (by decide)]
 refine wpAny_bind (gh hs pl pu ?_)
 have Fx:¬ ((((cp items.size 0 lo:Nat):Int) == 0 && (1:Int) == 1 && (cp items.size items.size hi - cp items.size 0 lo) == items.size)=true):=by
  intro q
  rw [iE,iE] at q
  have q1:((cp items.size 0 lo:Nat):Int)=0:=eq_of_beq q.1.1
  have q2:cp items.size items.size hi - cp items.size 0 lo=items.size:=eq_of_beq q.2
  exact hw ⟨by omega,by omega⟩
 show wpAny _ _ (if (((cp items.size 0 lo:Nat):Int) == 0 && (1:Int) == 1 && (cp items.size items.size hi - cp items.size 0 lo) == items.size)=true then _ else _) _ _ s
 rw [if_neg Fx,B1]
 first
  | exact wpAny_bind (m:=Builtin.Tuple.tupleExact _) (wpAny_newObj_type (wpAny_pure ⟨_,rfl,wpAny_pure h⟩) yB)
  | exact wpAny_bind (m:=Builtin.Tuple.tupleExact _) (wpAny_newObj_type (wpAny_bind (wpAny_pure (wpAny_pure ⟨_,rfl,wpAny_pure h⟩))) yB)
  | exact wpAny_bind (wpAny_bind (m:=Builtin.Tuple.tupleExact _) (wpAny_newObj_type (wpAny_pure (wpAny_pure ⟨_,rfl,wpAny_pure h⟩)) yB))
  | exact wpAny_bind (wpAny_bind (m:=Builtin.Tuple.tupleExact _) (wpAny_newObj_type (wpAny_pure ⟨_,rfl,wpAny_pure h⟩) yB))
end
end HT
namespace L2
open PySem PySem.Spec PyProof.Rows
abbrev TO:=St→Hp→(Option Int→Hp→Prop)→Prop
def PO (X:Cx) (e:Option Expr) (t:TO):Prop :=
 ∀ (pins:List (Addr×Obj)) (s:Shared) (σ:St) (H:Hp) (Q:Option Int→Hp→Prop),Inv X pins σ H s→t σ H Q →
  wpAny (model X.prog X.w) X.A (evalPart e X.env) (fun u s'=>∃ o H',Inv X pins σ H' s'∧IsPart u o∧Q o H') X.xe s
def Fy:TO:=fun _ H Q=>Q none H
def N3 (t:TE):TO:=fun σ H Q=>t σ H fun x H1=>∃ i,x = .int i∧Q (some i) H1
theorem intsAre_of {ns:List Int}:∀ {us:List Value},Vals (ns.map V.int) us→IntsAre us ns:=by
 induction ns with
 | nil=>intro us r; rw [JC] at r; cases r; exact .nil
 | cons n ns ih =>
   intro us r
   rw [iF] at r
   cases r with
   | cons r1 r2 =>
     obtain ⟨t,e⟩:=r1
     subst e
     exact .cons n t (ih r2)
section
variable {X:Cx} {e:Expr} {te:TE} {lo hi:Option Expr} {tl th:TO} {pos p2:Pos}
theorem Fz:PO X none Fy:=by
 intro pins s σ H Q I h
 rw [evalPart_none]
 exact wpAny_pure ⟨none,H,I,.none,h⟩
theorem FC (h:PE X e te):PO X (some e) (N3 te):=by
 intro pins s σ H Q I hw
 rw [evalPart_some]
 refine bX (h pins s σ H _ I hw) fun u s1 ⟨x,H1,I1,r1,q1⟩=>?_
 obtain ⟨i,rfl,q⟩:=q1
 obtain ⟨t,rfl⟩:=r1
 exact ⟨some i,H1,I1,.int i t,q⟩
def BA (X:Cx) (r:V→Option Int→Option Int→Hp→VK→Prop):Prop :=
 ∀ (pins:List (Addr×Obj)) (s:Shared) (σ:St) (H:Hp) (x:V) (v vl vu:Value) (lo hi:Option Int) (sl:Addr) (Q:VK),Inv X pins σ H s→RelV x v→s.heap.IsSliceOf sl vl vu .none→IsPart vl lo→IsPart vu hi→r x lo hi H Q →
  ∃ T id,typeLookup (.type T) "__getitem__" = pure (some (.builtin id))∧s.TypeIs v T∧wpAny (model X.prog X.w) X.A (getItem v (.ref sl)) (EP X pins σ Q) X.xe s
theorem BA.or {r r':V→Option Int→Option Int→Hp→VK→Prop} (h:BA X r) (h':BA X r'):BA X (fun x lo hi H Q=>r x lo hi H Q∨r' x lo hi H Q):=by
 intro pins s σ H x v vl vu lo hi sl Q I rx hs pl pu q
 rcases q with q | q
 · exact h pins s σ H x v vl vu lo hi sl Q I rx hs pl pu q
 · exact h' pins s σ H x v vl vu lo hi sl Q I rx hs pl pu q
def W5 (r:V→Option Int→Option Int→Hp→VK→Prop) (te:TE) (tl th:TO):TE:=fun σ H Q=>te σ H fun x H1=>tl σ H1 fun l H2=>th σ H2 fun u H3=>r x l u H3 Q
theorem uv {r:V→Option Int→Option Int→Hp→VK→Prop} (hr:BA X r) (he:PE X e te) (hl:PO X lo tl) (hu:PO X hi th):PE X (.Subscript e (.Slice lo hi none p2) pos) (W5 r te tl th):=by
 intro pins s σ H Q I h
 refine Subscript_ (bX (he pins s σ H _ I h) fun v s1 ⟨x,H1,I1,r1,q1⟩=>?_)
 refine wpAny_Slice (bX (hl pins s1 σ H1 _ I1 q1) fun vl s2 ⟨l,H2,I2,pl,q2⟩=>bX (hu pins s2 σ H2 _ I2 q2) fun vu s3 ⟨u,H3,I3,pu,q3⟩=>?_)
 rw [evalPart_none]
 refine wpAny_pure ?_
 have I4:Inv X pins σ H3 { s3 with heap:=s3.heap.push { cls:=.type "slice",data:=.fields #[vl,vu,.none] } }:=I3.kept (t':=s3.toks) fun b ob q=>de _ q
 obtain ⟨T,id,hT,ht,hg⟩:=hr pins { s3 with heap:=s3.heap.push { cls:=.type "slice",data:=.fields #[vl,vu,.none] } } σ H3 x v vl vu l u s3.heap.objs.size Q I4 r1 (Heap.IsSliceOf.new ..) pl pu q3
 show wpAny (model X.prog X.w) X.A (subscriptTail e (.Slice lo hi none p2) v (.ref s3.heap.objs.size)) (EP X pins σ Q) X.xe { s3 with heap:=s3.heap.push { cls:=.type "slice",data:=.fields #[vl,vu,.none] } }
 exact tail_any (ops:=[.ref s3.heap.objs.size,v]) ht hT hg (by with_unfolding_all rfl)
def r9 (xs:List V) (lo hi:Option Int):List V:=(xs.drop (HT.cp xs.length 0 lo)).take (HT.cp xs.length xs.length hi - HT.cp xs.length 0 lo)
theorem mE (xs:List V) (lo hi:Option Int):(r9 xs lo hi).length≤xs.length:=by
 unfold r9
 rw [MX,Nv]
 omega
def N4 (K:PySem.W.Frag):V→Option Int→Option Int→Hp→VK→Prop:=fun x lo hi H Q=>∃ a xs,x = .ref a∧dF K H a xs ∧
 ¬ (HT.cp xs.length 0 lo=0∧HT.cp xs.length xs.length hi=xs.length)∧∀ p,H p=none→Q (.ref p) (upd H p (.tup (r9 xs lo hi)))
theorem B2:BA X (N4 X.K):=by
 intro pins s σ H x v vl vu lo hi sl Q I rx hs pl pu h
 obtain ⟨a,xs,rfl,hx,hw,q⟩:=h
 cases rx
 obtain ⟨aP,r,ht,hz⟩:=I.tuple hx
 have hlen:aP.toArray.size=xs.length:=by rw [gD]; exact r.length.symm
 refine ⟨"tuple",_,MS.lookup,ht.typeIs,?_⟩
 refine HT.kz ht hs pl pu (by rw [hlen]; exact hw) ?_ (by rw [hlen]; exact hz)
 rw [hlen]
 refine ⟨.ref s.heap.objs.size,_,I.laid (t':=s.toks) (o:=.tup (r9 xs lo hi)) (fun b ob q=>de _ q) (dX _) ?_,rfl,q _ (I.bC.fresh (dX _))⟩
 exact ⟨mD (mE xs lo hi) hz,_,(r.drop (HT.cp xs.length 0 lo)).take (HT.cp xs.length xs.length hi - HT.cp xs.length 0 lo),IsTup.new _ _⟩
theorem Vals.nK {xs:List V} {us:List Value} (r:Vals xs us):us=[]↔xs=[]:=by
 cases r with
 | _=>simp
end
def yC (n:Nat) (i:Int):Option Nat:=if 0≤i then (if i < n then some i.toNat else none) else if -(n:Int)≤i then some (i+n).toNat else none
def jS {α:Type} (xs:List α) (i:Int):Option α:=(yC xs.length i).bind fun j=>xs[j]?
theorem yD {n:Nat} {i:Int} {j:Nat} (h:yC n i=some j):seqIndex? i n=some j∧j < n∧-(n:Int)≤i∧i < n:=by
 unfold yC at h
 by_cases h0:0≤i
 · rw [if_pos h0] at h
   by_cases h1:i < n
   · rw [if_pos h1] at h
     have e:i.toNat=j:=Option.some.inj h
     exact ⟨by rw [seqIndex_of h0 h1,e],by omega,by omega,h1⟩
   · rw [if_neg h1] at h; cases h
 · rw [if_neg h0] at h
   by_cases h1 : -(n:Int)≤i
   · rw [if_pos h1] at h
     have e:(i+n).toNat=j:=Option.some.inj h
     exact ⟨by rw [seqIndex_neg (by omega) h1,e],by omega,h1,by omega⟩
   · rw [if_neg h1] at h; cases h
theorem r_ {α:Type} {xs:List α} {i:Int} {v:α} (h:jS xs i=some v):∃ j,seqIndex? i xs.length=some j∧xs[j]?=some v∧j < xs.length∧-(xs.length:Int)≤i∧i < xs.length:=by
 unfold jS at h
 cases e:yC xs.length i with
 | none=>rw [e] at h; cases h
 | some j =>
   rw [e] at h
   obtain ⟨h1,h2,h3,h4⟩:=yD e
   exact ⟨j,h1,h,h2,h3,h4⟩
theorem aq {α:Type} {xs:List α} {j:Nat} {v:α} (h:xs[j]?=some v):jS xs (j:Int)=some v:=by
 have hj:j < xs.length:=(fH.mp h).1
 have e:yC xs.length (j:Int)=some j:=by
  unfold yC
  rw [if_pos (by omega),if_pos (by omega)]; simp
 unfold jS; rw [e]; exact h
theorem ux {α:Type} (xs:List α) (v:α):jS (xs ++ [v]) (-1)=some v:=by
 have hl:(xs ++ [v]).length=xs.length+1:=by simp
 have e:yC (xs ++ [v]).length (-1)=some xs.length:=by
  unfold yC
  rw [hl,if_neg (by decide),if_pos (by omega)]
  congr 1
  omega
 unfold jS
 rw [e]
 show (xs ++ [v])[xs.length]?=some v
 simp
def yE (b:Expr):Prop:=∀ o i,subscripted b false o i=operate [o,i] (getItem o i)
def FD (X:Cx) (r:R2):Prop :=
 ∀ (value slice:Expr) (pins:List (Addr×Obj)) (s:Shared) (σ:St) (H:Hp) (x y:V) (v u:Value) (Q:VK),Inv X pins σ H s→RelV x v→RelV y u→r x y H Q →
  subscripted slice false v u=operate [v,u] (getItem v u)→wpAny (model X.prog X.w) X.A (subscriptTail value slice v u) (EP X pins σ Q) X.xe s
def BB (X:Cx) (id:String) (r:V→List V→Hp→VK→Prop):Prop :=
 ∀ (pins:List (Addr×Obj)) (s:Shared) (σ:St) (H:Hp) (x:V) (xs:List V) (v:Value) (us:List Value) (Q:VK),Inv X pins σ H s→RelV x v→Vals xs us→r x xs H Q →
  wpAny (model X.prog X.w) X.A (call (.builtin id) (v :: us)) (EP X pins σ Q) X.xe s
section
variable {X:Cx} {a b:Expr} {ta tb:TE} {pos:Pos}
theorem FD.or {r r':R2} (h:FD X r) (h':FD X r'):FD X (fun x y H Q=>r x y H Q∨r' x y H Q):=by
 intro value slice pins s σ H x y v u Q I rx ry q hs
 rcases q with q | q
 · exact h value slice pins s σ H x y v u Q I rx ry q hs
 · exact h' value slice pins s σ H x y v u Q I rx ry q hs
theorem BB.or {id:String} {r r':V→List V→Hp→VK→Prop} (h:BB X id r) (h':BB X id r'):BB X id (fun x xs H Q=>r x xs H Q∨r' x xs H Q):=by
 intro pins s σ H x xs v us Q I rx rs q
 rcases q with q | q
 · exact h pins s σ H x xs v us Q I rx rs q
 · exact h' pins s σ H x xs v us Q I rx rs q
theorem N5 {r:R2} (hr:FD X r) (ha:PE X a ta) (hb:PE X b tb) (hs:yE b):PE X (.Subscript a b pos) (NP r ta tb):=by
 intro pins s σ H Q I h
 exact Subscript_ (Ka ha hb I h fun v u s2 x y H2 I2 rx ry q=>hr a b pins s2 σ H2 x y v u Q I2 rx ry q (hs _ _))
def N6 (K:PySem.W.Frag):R2:=fun x y H Q=>∃ p xs i v,x = .ref p∧y = .int i∧eJ K H p xs∧jS xs i=some v∧Q v H
def N7 (K:PySem.W.Frag):R2:=fun x y H Q=>∃ p xs i v,x = .ref p∧y = .int i∧dF K H p xs∧jS xs i=some v∧Q v H
def N8:R2:=fun x y H Q=>∃ z i c,x = .str z∧y = .int i∧z.length≤sizeLine∧jS z.cps.toList i=some c∧Q (.str ⟨#[c]⟩) H
theorem FH:FD X (N6 X.K):=by
 intro value slice pins s σ H x y v u Q I rx ry h hs
 obtain ⟨p,xs,i,z,rfl,rfl,hq,he,q⟩:=h
 cases rx
 obtain ⟨t,rfl⟩:=ry
 obtain ⟨aP,r,pl,hz⟩:=I.list hq
 obtain ⟨j,h1,h2,h3,h4,h5⟩:=r_ he
 obtain ⟨w,ew,rw'⟩:=r.get h2
 have hl:=r.length
 have hn:=lH
 have fin:EP X pins σ Q w s:=⟨z,H,I,rw',q⟩
 by_cases h0:0≤i
 · have hj:i.toNat=j:=by
    rw [seqIndex_of h0 h5] at h1
    exact Option.some.inj h1
   exact item_listR pl.isList h0 (by omega) (by rw [hj]; simpa using ew) fin hs
 · have hj:(i+(aP.toArray.size:Int)).toNat=j:=by
    rw [seqIndex_neg (by omega) h4] at h1
    rw [gD,← hl]
    exact Option.some.inj h1
   exact subscriptTail_builtinR (x:=w) pl.isList.typeIs slot_list_getitem.lookup
    (wpAny_getItem_list_neg (Q:=fun r s'=>r=w∧EP X pins σ Q r s') pl.isList (by omega) (by rw [gD] <;> omega) (by omega) (by rw [hj]; simpa using ew) ⟨rfl,fin⟩) hs
theorem Kt:FD X (N7 X.K):=by
 intro value slice pins s σ H x y v u Q I rx ry h hs
 obtain ⟨p,xs,i,z,rfl,rfl,hq,he,q⟩:=h
 cases rx
 obtain ⟨t,rfl⟩:=ry
 obtain ⟨aP,r,pl,hz⟩:=I.tuple hq
 obtain ⟨j,h1,h2,h3,h4,h5⟩:=r_ he
 obtain ⟨w,ew,rw'⟩:=r.get h2
 have hl:=r.length
 have hn:=lH
 have fin:EP X pins σ Q w s:=⟨z,H,I,rw',q⟩
 exact subscriptTail_builtinR (x:=w) pl.typeIs slot_tuple_getitem.lookup
  (getItem_tuple (j:=j) (Q:=fun r s'=>r=w∧EP X pins σ Q r s') pl (by omega) (by omega) (by rw [gD,← hl]; exact h1) (by simpa using ew) ⟨rfl,fin⟩) hs
theorem Ku:FD X N8:=by
 intro value slice pins s σ H x y v u Q I rx ry h hs
 obtain ⟨z,i,c,rfl,rfl,hz,he,q⟩:=h
 obtain ⟨t,rfl⟩:=rx
 obtain ⟨t',rfl⟩:=ry
 obtain ⟨j,h1,h2,h3,h4,h5⟩:=r_ he
 have hl:z.cps.toList.length=z.length:=by simp [Str.length]
 rw [hl] at h1 h4 h5
 have hn:=lH
 exact tail_any (typeIs_str s z t) slot_str_getitem.lookup (getItem_str (c:=c) (by
  have e1:decide (i < -(2 ^ 63:Int))=false:=decide_eq_false (by omega)
  have e2:decide (i ≥ 2 ^ 63)=false:=decide_eq_false (by omega)
  rw [e1,e2,Bool.or_false]) (by rw [h1]; simpa using h2) ⟨.str ⟨#[c]⟩,H,I.tok _,⟨_,rfl⟩,q⟩) hs
def V0 (K:PySem.W.Frag):R2:=fun x y H Q=>N6 K x y H Q∨N7 K x y H Q∨N8 x y H Q
theorem Kv:FD X (V0 X.K):=FH.or (Kt.or Ku)
theorem wD (aP:List Value) (n j:Nat) (u:Value):Obj.mapSeq (·.setIfInBounds j u) { cls:=.type "list",data:=.seq aP.toArray n }={ cls:=.type "list",data:=.seq (aP.set j u).toArray n }:=by
 simp [Obj.mapSeq]
theorem Inv.lst {pins:List (Addr×Obj)} {σ:St} {H:Hp} {s:Shared} {p:Addr} {xs:List V} (I:Inv X pins σ H s) (h:H p=some (.lst xs)) :
  ∃ (aP:List Value) (n:Nat),Vals xs aP∧s.heap.get? p=some { cls:=.type "list",data:=.seq aP.toArray n }∧xs.length≤sizeLine:=by
 obtain ⟨z,aP,n,r,e⟩:=I.bC p _ h
 exact ⟨aP,n,r,e,z⟩
theorem Inv.Kw {pins:List (Addr×Obj)} {σ:St} {H:Hp} {s:Shared} {p:Addr} {xs ys:List V} {aP its':List Value} {n n':Nat} {f:Obj→Obj} (I:Inv X pins σ H s) (h:H p=some (.lst xs))
  (ho:s.heap.get? p=some { cls:=.type "list",data:=.seq aP.toArray n }) (hf:f { cls:=.type "list",data:=.seq aP.toArray n }={ cls:=.type "list",data:=.seq its'.toArray n' }) (r:Vals ys its') (hz:ys.length≤sizeLine) (t:Nat) :
  Inv X pins σ (upd H p (.lst ys)) { s with heap:=s.heap.update p f,toks:=t }:=by
 have e:(s.heap.update p f).get? p=some { cls:=.type "list",data:=.seq its'.toArray n' }:=by
  rw [Jt f ho (by rw [hf] <;> rfl),hf]
 refine I.write (x:=p) (e:=p) (by rw [h]; trivial) (.inl rfl) (fun b u hb q=>(HZ _ _ (Ne.symm hb)).trans q) ⟨_,e⟩ ?_
 exact ⟨hz,its',n',r,e⟩
def N9:V→V→V→Hp→(Hp→Prop)→Prop:=fun o i v H Q=>∃ p xs k j,o = .ref p∧i = .int k∧H p=some (.lst xs)∧yC xs.length k=some j∧Q (upd H p (.lst (xs.set j v)))
theorem set_list:NK X N9:=by
 intro pins s σ H o i v ov iv u Q I ro ri rv h
 obtain ⟨p,xs,k,j,rfl,rfl,hp,hj,q⟩:=h
 cases ro
 obtain ⟨t,rfl⟩:=ri
 obtain ⟨aP,n,r,ho,hz⟩:=I.lst hp
 obtain ⟨h1,h2,h3,h4⟩:=yD hj
 have hl:=r.length
 have hn:=lH
 have I':Inv X pins σ (upd H p (.lst (xs.set j v))) { s with heap:=s.heap.update p (Obj.mapSeq (·.setIfInBounds j u)) } :=
  I.Kw hp ho (wD aP n j u) (r.set rv j) (by rw [JA]; exact hz) s.toks
 by_cases h0:0≤k
 · have hk:k.toNat=j:=by
    rw [seqIndex_of h0 h4] at h1
    exact Option.some.inj h1
   exact PySem.W.ki_setAt ho h0 (by omega) (by rw [gD,← hl]; exact h4) (by rw [hk]; exact ⟨_,I',q⟩)
 · have hk:(k+(aP.toArray.size:Int)).toNat=j:=by
    rw [seqIndex_neg (by omega) h3] at h1
    rw [gD,← hl]
    exact Option.some.inj h1
   exact PySem.W.ki_setBack ho (by omega) (by rw [gD,← hl]; exact h3) (by omega) (by rw [hk]; exact ⟨_,I',q⟩)
theorem sd (lo hi:Option Int) (n:Nat):(sliceBounds lo hi none n).1=((HT.cp n 0 lo:Nat):Int)∧(sliceBounds lo hi none n).2.1=((HT.cp n n hi:Nat):Int)∧(sliceBounds lo hi none n).2.2=1:=by
 refine ⟨?_,?_,rfl⟩
 · cases lo with
   | none=>simp [sliceBounds,HT.cp]
   | some i =>
     simp only [sliceBounds,HT.cp,Option.getD_none,show (1:Int) > 0 by decide,if_true]
     by_cases h:i < 0
     · simp only [h,if_true] <;> omega
     · simp only [h,if_false] <;> omega
 · cases hi with
   | none=>simp [sliceBounds,HT.cp]
   | some i =>
     simp only [sliceBounds,HT.cp,Option.getD_none,show (1:Int) > 0 by decide,if_true]
     by_cases h:i < 0
     · simp only [h,if_true] <;> omega
     · simp only [h,if_false] <;> omega
theorem qi (aP:List Value) (lo hi:Option Int):slicePick aP.toArray lo hi none=((aP.drop (HT.cp aP.length 0 lo)).take (HT.cp aP.length aP.length hi - HT.cp aP.length 0 lo)).toArray:=by
 obtain ⟨h1,h2,h3⟩:=sd lo hi aP.toArray.size
 unfold slicePick
 rw [h1,h2,h3]
 simp only [sliceRange_one,pick_run,gD] <;> rfl
def N_ (K:PySem.W.Frag):V→Option Int→Option Int→Hp→VK→Prop:=fun x lo hi H Q=>∃ a xs,x = .ref a∧eJ K H a xs∧∀ p,H p=none→Q (.ref p) (upd H p (.lst (r9 xs lo hi)))
theorem FJ:BA X (N_ X.K):=by
 intro pins s σ H x v vl vu lo hi sl Q I rx hs pl pu h
 obtain ⟨a,xs,rfl,hx,q⟩:=h
 cases rx
 obtain ⟨aP,r,ht,hz⟩:=I.list hx
 have hlen:=r.length
 refine ⟨"list",_,slot_list_getitem.lookup,ht.isList.typeIs,?_⟩
 refine wpAny_getItem_list_slice ht.isList hs pl pu .none (by simp) ?_ (by rw [gD] <;> omega)
 rw [qi,← hlen]
 refine ⟨.ref s.heap.objs.size,_,I.laid (t':=s.toks) (o:=.lst (r9 xs lo hi)) (fun b ob q=>de _ q) (dX _) ?_,rfl,q _ (I.bC.fresh (dX _))⟩
 exact ⟨mD (mE xs lo hi) hz,_,0,(r.drop (HT.cp xs.length 0 lo)).take (HT.cp xs.length xs.length hi - HT.cp xs.length 0 lo),nE _ rfl⟩
def iL:V→Bool
 | .bu=>true
 | .bl _=>true
 | .int _=>true
 | .str _=>true
 | _=>false
def ER:V→V→Bool
 | .bu,.bu=>true
 | .bl a,.bl b=>a == b
 | .bl a,.int b=>(if a then 1 else 0) == b
 | .int a,.bl b=>a == (if b then 1 else 0)
 | .int a,.int b=>a == b
 | .str a,.str b=>a == b
 | _,_=>false
theorem Kx {A:Around} {s:Shared} {y x:V} {u v:Value} (ry:RelV y u) (rx:RelV x v) (fy:iL y=true) (fx:iL x=true):SeqAt.EqAt A s u v (ER y x):=by
 cases y with
 | bu =>
   cases ry
   cases x with
   | bu=>cases rx; exact SeqAt.EqAt.same _
   | bl b=>cases rx; exact SeqAt.EqAt.none_bool b
   | int b=>obtain ⟨t,rfl⟩:=rx; exact SeqAt.EqAt.none_int b t
   | str b=>obtain ⟨t,rfl⟩:=rx; exact SeqAt.EqAt.none_str b t
   | _=>exact absurd (show false=true from fx) qa
 | bl a =>
   cases ry
   cases x with
   | bu=>cases rx; exact SeqAt.EqAt.bool_none a
   | bl b=>cases rx; exact SeqAt.EqAt.bool_bool a b
   | int b=>obtain ⟨t,rfl⟩:=rx; exact SeqAt.EqAt.bool_int a b t
   | str b=>obtain ⟨t,rfl⟩:=rx; exact SeqAt.EqAt.bool_str a b t
   | _=>exact absurd (show false=true from fx) qa
 | int a =>
   obtain ⟨t',rfl⟩:=ry
   cases x with
   | bu=>cases rx; exact SeqAt.EqAt.int_none a t'
   | bl b=>cases rx; exact SeqAt.EqAt.int_bool a t' b
   | int b=>obtain ⟨t,rfl⟩:=rx; exact SeqAt.EqAt.int_int a t' b t
   | str b=>obtain ⟨t,rfl⟩:=rx; exact SeqAt.EqAt.int_str a t' b t
   | _=>exact absurd (show false=true from fx) qa
 | str a =>
   obtain ⟨t',rfl⟩:=ry
   cases x with
   | bu=>cases rx; exact SeqAt.EqAt.str_none a t'
   | bl b=>cases rx; exact SeqAt.EqAt.str_bool a t' b
   | int b=>obtain ⟨t,rfl⟩:=rx; exact SeqAt.EqAt.str_int a t' b t
   | str b=>obtain ⟨t,rfl⟩:=rx; exact SeqAt.EqAt.str_str a t' b t
   | _=>exact absurd (show false=true from fx) qa
 | _=>exact absurd (show false=true from fy) qa
def wF (x:V) (u:Value):Bool:=match u with
 | .none=>ER .bu x
 | .bool b=>ER (.bl b) x
 | .int i _=>ER (.int i) x
 | .str z _=>ER (.str z) x
 | _=>false
theorem B3 {x y:V} {u:Value} (r:RelV y u) (f:iL y=true):wF x u=ER y x:=by
 cases y with
 | bu=>cases r; rfl
 | bl b=>cases r; rfl
 | int i=>obtain ⟨t,rfl⟩:=r; rfl
 | str z=>obtain ⟨t,rfl⟩:=r; rfl
 | _=>exact absurd (show false=true from f) qa
theorem kA {x:V}:∀ {xs:List V} {us:List Value},Vals xs us→xs.all iL=true→us.any (wF x)=xs.any fun y=>ER y x
 | _,_,.nil,_=>rfl
 | y :: xs,u :: us,.cons r t,f=>by
   rw [uo,iE] at f
   rw [M0,M0,B3 r f.1,kA t f.2]
theorem iM {A:Around} {s:Shared} {x:V} {v:Value} (rx:RelV x v) (fx:iL x=true):∀ {xs:List V} {us:List Value},Vals xs us→xs.all iL=true→∀ u∈us,SeqAt.EqAt A s u v (wF x u)
 | _,_,.nil,_=>fun u hu=>by cases hu
 | y :: xs,u :: us,.cons r t,f=>fun u' hu=>by
   rw [uo,iE] at f
   rcases dD.mp hu with rfl | hu
   · rw [B3 r f.1]; exact Kx r rx f.1 fx
   · exact iM rx fx t f.2 u' hu
def Rg (x:V) (xs:List V):Bool:=xs.any fun y=>ER y x
def SM (K:PySem.W.Frag) (neg:Bool):R2:=fun x y H Q=>∃ p xs,y = .ref p∧(eJ K H p xs∨dF K H p xs)∧iL x=true∧xs.all iL=true∧Q (.bl (if neg then !Rg x xs else Rg x xs)) H
theorem zL:d_ X (compareOp .In) (SM X.K false):=by
 intro pins s σ H x y v u Q I rx ry h
 obtain ⟨p,xs,rfl,hq,fx,fs,q⟩:=h
 cases ry
 rcases hq with hq | hq
 · obtain ⟨aP,r,pl,hz⟩:=I.list hq
   refine SeqAt.in_listAt (wF x) pl.isList (fun w hw=>iM rx fx r fs w (by simpa using hw)) ⟨.bl _,H,I,rfl,?_⟩
   rw [show aP.toArray.any (wF x)=aP.any (wF x) by simp,kA r fs]
   exact q
 · obtain ⟨aP,r,pl,hz⟩:=I.tuple hq
   refine SeqAt.in_tupleAt (wF x) pl (fun w hw=>iM rx fx r fs w (by simpa using hw)) ⟨.bl _,H,I,rfl,?_⟩
   rw [show aP.toArray.any (wF x)=aP.any (wF x) by simp,kA r fs]
   exact q
theorem se:d_ X (compareOp .NotIn) (SM X.K true):=by
 intro pins s σ H x y v u Q I rx ry h
 obtain ⟨p,xs,rfl,hq,fx,fs,q⟩:=h
 cases ry
 rcases hq with hq | hq
 · obtain ⟨aP,r,pl,hz⟩:=I.list hq
   refine SeqAt.notIn_listAt (wF x) pl.isList (fun w hw=>iM rx fx r fs w (by simpa using hw)) ⟨.bl _,H,I,rfl,?_⟩
   rw [show aP.toArray.any (wF x)=aP.any (wF x) by simp,kA r fs]
   exact q
 · obtain ⟨aP,r,pl,hz⟩:=I.tuple hq
   refine SeqAt.notIn_tupleAt (wF x) pl (fun w hw=>iM rx fx r fs w (by simpa using hw)) ⟨.bl _,H,I,rfl,?_⟩
   rw [show aP.toArray.any (wF x)=aP.any (wF x) by simp,kA r fs]
   exact q
theorem sg:d_ X (compareOp .NotIn) (fun x y H Q=>∃ i j,x = .str i∧y = .str j∧Q (.bl (!(!(Builtin.Str.occurrences j i 0 j.length 1).isEmpty))) H):=by
 intro pins s σ H x y v u Q I rx ry h
 obtain ⟨i,j,rfl,rfl,q⟩:=h
 obtain ⟨t,rfl⟩:=rx
 obtain ⟨t',rfl⟩:=ry
 exact notIn_str ⟨.bl _,H,I,rfl,q⟩
theorem sh:c_ X (.builtin "len") (fun xs H Q=>∃ p ys,xs=[.ref p]∧(eJ X.K H p ys∨dF X.K H p ys)∧Q (.int ys.length) H):=by
 intro pins s σ H xs us Q I r h
 obtain ⟨p,ys,rfl,hq,q⟩:=h
 obtain ⟨u,rfl,rx⟩:=vals1 r
 cases rx
 have hn:=lH
 rcases hq with hq | hq
 · obtain ⟨aP,r',pl,hz⟩:=I.list hq
   have hlen:=r'.length
   exact Calls.call_len_list pl.isList (by simp only [gD] <;> omega) ⟨.int ys.length,H,I.tok _,⟨s.toks+1,by rw [gD,hlen]⟩,q⟩
 · obtain ⟨aP,r',pl,hz⟩:=I.tuple hq
   have hlen:=r'.length
   exact len_tuple pl (by simp only [gD] <;> omega) ⟨.int ys.length,H,I.tok _,⟨s.toks+1,by rw [gD,hlen]⟩,q⟩
theorem si:c_ X (.builtin "len") (fun xs H Q=>∃ z,xs=[.str z]∧z.length≤sizeLine∧Q (.int z.length) H):=by
 intro pins s σ H xs us Q I r h
 obtain ⟨z,rfl,hz,q⟩:=h
 obtain ⟨u,rfl,t,rfl⟩:=vals1 r
 have hn:=lH
 exact len_str (by omega) ⟨.int z.length,H,I.tok _,⟨_,rfl⟩,q⟩
theorem c_.or {f:Value} {r r':List V→Hp→VK→Prop} (h:c_ X f r) (h':c_ X f r'):c_ X f (fun xs H Q=>r xs H Q∨r' xs H Q):=by
 intro pins s σ H xs us Q I rs q
 rcases q with q | q
 · exact h pins s σ H xs us Q I rs q
 · exact h' pins s σ H xs us Q I rs q
theorem gJ:c_ X (.type "list") (fun xs H Q=>∃ p ys,xs=[.ref p]∧(eJ X.K H p ys∨dF X.K H p ys)∧∀ l,H l=none→Q (.ref l) (upd H l (.lst ys))):=by
 intro pins s σ H xs us Q I r h
 obtain ⟨p,ys,rfl,hq,q⟩:=h
 obtain ⟨u,rfl,rx⟩:=vals1 r
 cases rx
 have fin:∀ (aP:List Value),Vals ys aP→ys.length≤sizeLine→∀ (h':Heap) (c':Nat),(∀ b o',s.heap.get? b=some o'→h'.get? b=some o') →
   h'.get? s.heap.objs.size=some { cls:=.type "list",dict:=none,data:=.seq aP.toArray c',slots:=#[] }→EP X pins σ Q (.ref s.heap.objs.size) { s with heap:=h' }:=fun aP r' hz h' c' kp e =>
  ⟨.ref s.heap.objs.size,_,I.laid (t':=s.toks) kp (dX _) (show bP X.prog X.w _ h' _ (.lst ys) from ⟨hz,aP,c',r',e⟩),rfl,q _ (I.bC.fresh (dX _))⟩
 rcases hq with hq | hq
 · obtain ⟨aP,r',pl,hz⟩:=I.list hq
   have hlen:=r'.length
   obtain ⟨o,ho,hc,n,hd⟩:=pl.isList
   exact call_list_seq p (.inl rfl) ho hc hd (fun h' c' kp e=>fin aP r' hz h' c' kp e) (by simp only [gD] <;> omega)
 · obtain ⟨aP,r',pl,hz⟩:=I.tuple hq
   have hlen:=r'.length
   obtain ⟨o,ho,hc,n,hd⟩:=pl
   exact call_list_seq p (.inr rfl) ho hc hd (fun h' c' kp e=>fin aP r' hz h' c' kp e) (by simp only [gD] <;> omega)
theorem fO:c_ X (.type "tuple") (fun xs H Q=>∃ p ys,xs=[.ref p]∧((eJ X.K H p ys∧∀ l,H l=none→Q (.ref l) (upd H l (.tup ys)))∨(dF X.K H p ys∧Q (.ref p) H))):=by
 intro pins s σ H xs us Q I r h
 obtain ⟨p,ys,rfl,h⟩:=h
 obtain ⟨u,rfl,rx⟩:=vals1 r
 cases rx
 rcases h with ⟨hq,q⟩ | ⟨hq,q⟩
 · obtain ⟨aP,r',pl,hz⟩:=I.list hq
   have hlen:=r'.length
   refine call_tuple_list pl.isList (fun h' kp=>?_) (by simp only [gD] <;> omega)
   have I1:Inv X pins σ H { s with heap:=h' }:=I.kept (t':=s.toks) kp
   have I2:Inv X pins σ (upd H h'.objs.size (.tup ys)) { s with heap:=h'.push { cls:=.type "tuple",data:=.seq aP.toArray } } :=
    I1.laid (t':=s.toks) (fun b o e=>de _ e) (dX _) (show bP X.prog X.w _ _ _ (.tup ys) from ⟨hz,aP,r',IsTup.new _ _⟩)
   exact ⟨.ref h'.objs.size,_,I2,rfl,q _ (I1.bC.fresh (dX _))⟩
 · obtain ⟨aP,r',pl,hz⟩:=I.tuple hq
   exact call_tuple_same pl ⟨.ref p,H,I,rfl,q⟩
def SN (K:PySem.W.Frag) (T:String) (x:V) (H:Hp):Prop:=match x with
 | .str _=>T="str"
 | .int _=>T="int"
 | .ref p=>(T="list"∧∃ xs,eJ K H p xs)∨(T="tuple"∧∃ o,K.lookup p=some o∧o.cls = .type "tuple"∧o.dict=none) ∨
    (T="dict"∧((∃ aZ,H p=some (.dK aZ))∨∃ aZ,H p=some (.dT aZ)))∨(T="set"∧∃ S n,H p=some (.set S n))
 | _=>False
theorem B4 {pins:List (Addr×Obj)} {σ:St} {H:Hp} {s:Shared} {T:String} {x:V} {v:Value} (I:Inv X pins σ H s) (r:RelV x v) (ty:SN X.K T x H) :
  s.TypeIs v T∧∀ a,v = .ref a→∃ ob,s.heap.get? a=some ob∧ob.dict=none:=by
 cases x with
 | str z =>
   obtain ⟨t,rfl⟩:=r
   cases (show T="str" from ty)
   exact ⟨typeIs_str s z t,fun _ e=>nomatch e⟩
 | int i =>
   obtain ⟨t,rfl⟩:=r
   cases (show T="int" from ty)
   exact ⟨typeIs_int s i t,fun _ e=>nomatch e⟩
 | ref p =>
   cases r
   rcases ty with ⟨rfl,xs,hq⟩ | ⟨rfl,o,hk,hc,hd⟩ | ⟨rfl,hk⟩ | ⟨rfl,S,n,hk⟩
   · obtain ⟨aP,_,pl,_⟩:=I.list hq
     refine ⟨pl.isList.typeIs,fun a e=>?_⟩
     cases e
     obtain ⟨o,n,e,c,hd,_⟩:=pl
     exact ⟨o,e,hd⟩
   · refine ⟨⟨o,I.lq p o hk,hc⟩,fun a e=>?_⟩
     cases e
     exact ⟨o,I.lq _ o hk,hd⟩
   · have z:∃ o,s.heap.get? p=some o∧o.ExactDict:=by
      rcases hk with ⟨aZ,hk⟩ | ⟨aZ,hk⟩
      · obtain ⟨_,_,_,_,o,_,_,e,ex,_⟩:=I.bC p _ hk
        exact ⟨o,e,ex⟩
      · obtain ⟨_,_,_,_,o,_,_,e,ex,_⟩:=I.bC p _ hk
        exact ⟨o,e,ex⟩
     obtain ⟨o,e,ex⟩:=z
     refine ⟨⟨o,e,ex.1⟩,fun a e2=>?_⟩
     cases e2
     exact ⟨o,e,ex.2.1⟩
   · obtain ⟨o,_,_,_,e,ex,_⟩:=I.bC p _ hk
     refine ⟨⟨o,e,ex.1⟩,fun a e2=>?_⟩
     cases e2
     exact ⟨o,e,ex.2.1⟩
 | _=>exact False.elim ty
def SO (K:PySem.W.Frag) (T:String) (r:V→List V→Hp→VK→Prop) (to:TE):TE:=fun σ H Q=>to σ H fun x H1=>SN K T x H1∧r x [] H1 Q
def W6 (K:PySem.W.Frag) (T:String) (r:V→List V→Hp→VK→Prop) (to:TE) (t:TA):TE:=fun σ H Q=>to σ H fun x H1=>SN K T x H1∧t σ H1 fun xs H2=>r x xs H2 Q
variable {o e:Expr} {es:List Expr} {to:TE} {t:TA} {name:Str} {apos bg:Pos} {T id:String} {r:V→List V→Hp→VK→Prop}
theorem Kz (pa:PlainAttrs T) (slot:Slot T name id) (KA:typeOf (.builtin id)=pure (.type "method_descriptor")) (hm:BB X id r) (ho:PE X o to)
  (eM:attributeBase o name X.env (eval o X.env)=eval o X.env:=by rfl) (eO:(apos.endLine == bg.line)=true:=by rfl):PE X (.Call (.Attribute o name apos) [] [] bg) (SO X.K T r to):=by
 intro pins s σ H Q I h
 refine wpAny_Call_method0_late eM eO (bX (ho pins s σ H _ I h) fun v s1 ⟨x,H1,I1,r1,ty,q1⟩=>?_)
 obtain ⟨h1,h2⟩:=B4 I1 r1 ty
 exact ⟨T,id,pa,slot,KA,h1,h2,QT rfl (PySem.evalArgs_none (hm pins s1 σ H1 x [] v [] Q I1 r1 .nil q1))⟩
theorem uy (pa:PlainAttrs T) (slot:Slot T name id) (KA:typeOf (.builtin id)=pure (.type "method_descriptor")) (hm:BB X id r) (ho:PE X o to) (ha:PA X (e :: es) t)
  (eM:attributeBase o name X.env (eval o X.env)=eval o X.env:=by rfl)
  (n9:((backTo bg (starEach (e :: es) X.env)).all (fun x=>!x.1) && (backToKw bg (keywordEach [] X.env)).all (fun x=>x.1.isSome)
    && decide ((e :: es).length+([]:List Keyword).length+(if ([]:List Keyword).isEmpty then 0 else 1) < 30))=true:=by rfl)
  (eO:(apos.endLine == bg.line)=true:=by rfl) (hs:starEach (e :: es) X.env=(false,eval e X.env) :: starEach es X.env:=by rfl) (eQ:(backTo bg (starEach es X.env)).any (·.1)=false:=by rfl) :
  PE X (.Call (.Attribute o name apos) (e :: es) [] bg) (W6 X.K T r to t):=by
 intro pins s σ H Q I h
 refine wpAny_Call_method_late eM n9 eO rfl (bX (ho pins s σ H _ I h) fun v s1 ⟨x,H1,I1,r1,ty,q1⟩=>?_)
 obtain ⟨h1,h2⟩:=B4 I1 r1 ty
 refine ⟨T,id,pa,slot,KA,h1,h2,?_⟩
 have hA:=ha bg pins s1 σ H1 _ I1 q1
 rw [hs] at hA ⊢
 refine QT (by show (false || (backTo bg (starEach es X.env)).any (·.1))=false; rw [eQ] <;> rfl) (Calls.evalArgs_plain ?_)
 exact bX hA fun us s2 ⟨vs,H2,I2,r2,q2⟩=>hm pins s2 σ H2 x vs v us Q I2 r1 r2 q2
end
def V1 (X:Cx) (id:String) (r:V→List V→Hp→VK→Prop):Prop :=
 ∀ (pins:List (Addr×Obj)) (s:Shared) (σ:St) (H:Hp) (x:V) (xs:List V) (v:Value) (us:List Value) (Q:VK),Inv X pins σ H s→RelV x v→Vals xs us→r x xs H Q →
  wpAny (model X.prog X.w) X.A (call (.builtin id) (v :: us)) (EP X pins σ Q) X.xe s
theorem Vals.one:∀ {x:V} {us:List Value},Vals [x] us→∃ u,us=[u]∧RelV x u
 | _,_,.cons r .nil=>⟨_,rfl,r⟩
theorem Vals.two:∀ {x y:V} {us:List Value},Vals [x,y] us→∃ u v,us=[u,v]∧RelV x u∧RelV y v
 | _,_,_,.cons r (.cons q .nil)=>⟨_,_,rfl,r,q⟩
theorem Vals.zero:∀ {us:List Value},Vals [] us→us=[]
 | _,.nil=>rfl
theorem Vals.dropLast {xs:List V} {us:List Value} (h:Vals xs us):Vals xs.dropLast us.dropLast:=by
 induction h with
 | nil=>exact .nil
 | cons r t ih =>
   cases t with
   | nil=>exact .nil
   | cons q t'=>exact .cons r ih
theorem Vals.eraseIdx:∀ {xs:List V} {us:List Value} (i:Nat),Vals xs us→Vals (xs.eraseIdx i) (us.eraseIdx i)
 | _,_,_,.nil=>.nil
 | _,_,0,.cons _ t=>t
 | _,_,i+1,.cons r t=>.cons r (Vals.eraseIdx i t)
theorem wG {α:Type} (l:List α):l.eraseIdx (l.length - 1)=l.dropLast:=by
 induction l with
 | nil=>rfl
 | cons a r ih =>
   cases r with
   | nil=>rfl
   | cons b r =>
     have e:(a :: b :: r).length - 1=((b :: r).length - 1)+1:=by
      have h1:(a :: b :: r).length=r.length+2:=rfl
      have h2:(b :: r).length=r.length+1:=rfl
      omega
     rw [e,List.eraseIdx_cons_succ,ih]
     all_goals rfl
section
variable {X:Cx} {pins:List (Addr×Obj)} {σ:St} {H:Hp} {s:Shared} {l b:Addr} {xs ys zs:List V}
theorem Inv.N' {aP its':List Value} {n:Nat} {f:Array Value→Array Value} {t':Nat} (I:Inv X pins σ H s) (hH:H l=some (.lst xs))
  (e:s.heap.get? l=some { cls:=.type "list",data:=.seq aP.toArray n }) (hf:f aP.toArray=its'.toArray) (hv:Vals ys its') (hz:ys.length≤sizeLine) :
  Inv X pins σ (upd H l (.lst ys)) { s with heap:=s.heap.update l (Obj.mapSeq f),toks:=t' }:=by
 have q:=PySem.IsL.update e f
 rw [hf] at q
 refine I.write (x:=l) (e:=l) (by rw [hH]; exact trivial) (.inl rfl) (fun b' u hb hu=>(HZ s.heap (Obj.mapSeq f) (Ne.symm hb)).trans hu) ⟨_,q⟩ ?_
 exact ⟨hz,its',_,hv,q⟩
theorem Inv.SQ {aP:List Value} {t':Nat} (I:Inv X pins σ H s) (hv:Vals ys aP) (hz:ys.length≤sizeLine) :
  Inv X pins σ (upd H s.heap.objs.size (.lst ys)) { s with heap:=s.heap.push { cls:=.type "list",data:=.seq aP.toArray },toks:=t' } :=
 I.laid (fun _ _ q=>de _ q) (dX _) ⟨hz,aP,0,hv,nE _ rfl⟩
theorem Inv.fresh (I:Inv X pins σ H s):H s.heap.objs.size=none:=I.bC.fresh (dX _)
theorem Inv.Oa (I:Inv X pins σ H s) (hH:H l=some (.lst xs)):xs.length≤sizeLine∧∃ (aP:List Value) (n:Nat),Vals xs aP∧xs.length=aP.length∧s.heap.get? l=some { cls:=.type "list",data:=.seq aP.toArray n }:=by
 obtain ⟨z,aP,n,r,e⟩:=I.bC l _ hH
 exact ⟨z,aP,n,r,r.length,e⟩
end
section
variable {X:Cx}
def yF:V→List V→Hp→VK→Prop:=fun x vs H Q=>∃ l xs y,x = .ref l∧vs=[y]∧H l=some (.lst xs)∧xs.length < sizeLine∧Q .bu (upd H l (.lst (xs ++ [y])))
theorem bh:V1 X "list.append" yF:=by
 intro pins s σ H x vs v us Q I rx rv h
 obtain ⟨l,xs,y,rfl,rfl,hH,hz,q⟩:=h
 cases rx
 obtain ⟨u,rfl,ru⟩:=rv.one
 obtain ⟨z,aP,n,r,hl,e⟩:=I.Oa hH
 refine call_meets F.slot_list_append ⟨_,e,rfl⟩ F.entry_list_append (F.args_list_append_2 _ _) (PySem.list_append l aP.toArray n u (by rw [gD]; omega)) ⟨e,?_⟩
 refine ⟨.bu,_,I.N' (its':=aP ++ [u]) hH e (by simp) (r.append (.cons ru .nil)) ?_,rfl,q⟩
 rw [qd,QU]
 omega
def Ob:V→List V→Hp→VK→Prop:=fun x vs H Q=>∃ l xs y,x = .ref l∧vs=[]∧H l=some (.lst xs)∧xs[xs.length - 1]?=some y∧Q y (upd H l (.lst xs.dropLast))
theorem B5:V1 X "list.pop" Ob:=by
 intro pins s σ H x vs v us Q I rx rv h
 obtain ⟨l,xs,y,rfl,rfl,hH,hy,q⟩:=h
 cases rx
 have SR:=rv.zero
 subst SR
 obtain ⟨z,aP,n,r,hl,e⟩:=I.Oa hH
 obtain ⟨u,hu,ru⟩:=r.get hy
 have Oc:aP.toArray[aP.toArray.size - 1]?=some u:=by
  show aP.toArray[aP.length - 1]?=some u
  rw [← Array.getElem?_toList,← hl]
  exact hu
 refine call_meets F.slot_list_pop ⟨_,e,rfl⟩ F.entry_list_pop (F.args_list_pop_1 _) (MeetsSeq.list_pop_last l aP.toArray n u Oc (by rw [gD]; omega)) ⟨e,?_⟩
 refine ⟨y,_,I.N' (its':=aP.dropLast) hH e ?_ r.dropLast ?_,ru,q⟩
 · show aP.toArray.eraseIdxIfInBounds (aP.toArray.size - 1)=aP.dropLast.toArray
   rw [gD,List.eraseIdxIfInBounds_toArray,wG]
 · rw [MT]
   omega
end
section
variable {prog:Program} {w:World} {A:Around} {E:Value→Shared→Prop} {s:Shared}
end
section
variable {X:Cx}
end
end L2
namespace Rh
open PySem PySem.W PySem.Calls PyProof.Rows
theorem m9 {P:Params} {h:Heap}:∀ (ns:List Int) (vs:List Value),WellAll P h vs (ns.map WData.int)→IntsAre vs ns:=by
 intro ns
 induction ns with
 | nil =>
   intro vs w
   rw [JC] at w
   cases w
   exact .nil
 | cons n ns ih =>
   intro vs w
   rw [iF] at w
   cases w with
   | cons a b =>
     cases a
     exact .cons _ _ (ih _ b)
theorem zM {l:OpenLaw} {n:Nat} (hn:l.most=some n) {P:Params} {h:Heap} {args:List WData} {vals:List Value}
  (jT:l.row.toRowW.claim.pre args=true) (Od:WellAll P h vals args) :
  ∃ a vs ns,vals=[Value.ref a]∧args=[WData.list (ns.map WData.int)]∧h.get? a=some { cls:=.type "list",data:=.seq vs.toArray }∧IntsAre vs ns∧ns.length≤n:=by
 have W7:WShape.hasAll [] args [.list .int]=true:=(pre_splitW jT).1
 have hc:l.pre.holds [] { args:=args }=true:=(pre_splitW jT).2
 obtain ⟨d,r,rfl,h1,h2⟩:=hasAllW_cons W7
 obtain rfl:=hasAllW_nil h2
 obtain ⟨xs,rfl,h3⟩:=hasW_list h1
 obtain ⟨ns,rfl⟩:=items_int h3
 have hlen:ns.length≤n:=by
  unfold OpenLaw.pre at hc
  have h4:(WTm.not (.lt (.lit (.int (n:Int))) (.len (.arg 0)))).holds [] { args:=[.list (ns.map .int)] }=true:=by
   have h4:=(holds_andW hc).1
   rw [hn] at h4
   exact h4
  have h5:=condW_of h4 (w_not (w_lt w_lit (w_len_list (w_arg rfl))))
  rw [bZ] at h5
  refine Nat.le_of_not_lt fun q=>?_
  have q':(n:Int) < ((ns.length:Nat):Int):=by omega
  first
   | (rw [decide_eq_true q'] at h5; exact absurd h5 (by decide))
   | (simp at h5; omega)
 cases Od with
 | cons w1 w2 =>
   cases w2
   cases w1 with
   | list ho lJ=>exact ⟨_,_,ns,rfl,rfl,ho,m9 ns _ lJ,hlen⟩
theorem zN (l:OpenLaw) (args:List WData):l.row.toRowW.claim.post args (.bool true) args=true :=
 postW_of (r:=l.row.toRowW) (X:=(true == true))
  (show WShape.has [] (.bool true) .bool=true by first | rfl | decide | simp [WShape.has,WShape.arms,WShape.armsAll])
  (show (WTm.eq .res (.lit (.bool true))).value [] { args:=args,res:=some (.bool true),after:=args }=some (.bool (true == true)) from w_eq_bool (w_res rfl) w_lit) rfl
theorem uz {l:OpenLaw} {n:Nat} {q:Program} {loose:List Str} {XP:(Str→Option Value)→Heap→Prop} {YP:World→Heap→Prop} {d:DefRec}
  (hn:l.most=some n) (SS:d.params.defaults=[])
  (call:∀ (w:World) (s₀ s₁:Shared) (mg mb:Str→Option Value) (fa:Addr) (o:Obj) (pm cd doc:Value) (a:Addr) (vs:List Value) (ns:List Int),
    Ground q loose [] XP w s₀ mg mb s₁.heap→YP w s₁.heap →
    s₁.heap.get? fa=some o→o.data = .func (docDef d.name d.params d.body d.scope pm cd doc)→s₁.heap.CodeRec cd d.name→mg d.name=some (.ref fa) →
    s₁.heap.get? a=some { cls:=.type "list",data:=.seq vs.toArray }→IntsAre vs ns→ns.length≤n→s₁.gens = #[] →
    codeAny (model l.prog w) callerA (.call (.ref fa) ⟨[.ref a],[]⟩) (fun r s'=>r = .ok (.ret (.bool true))∧OldK s₁.heap s'.heap∧s'.os=s₁.os∧AllBare s'.gens) s₁) :
  WalkO q loose XP YP l.row.toRowW d [] (fun f vs=>PySem.call f vs):=by
 intro w s₀ s₁ mg mb G Y fa o pm cd doc dV kV ho hd iB hD Oe hg args vals as jT Of V2 Od V3
 obtain rfl:dV = .none:=Dflts.none hD SS
 obtain rfl:kV = .none:=Dflts.noKw hD
 obtain ⟨a,vs,ns,rfl,rfl,KC,hints,hlen⟩:=zM hn jT Od
 refine enter_call (codeAny_mono (call w s₀ s₁ mg mb fa o pm cd doc a vs ns G Y ho (fd_plain hd) iB Oe KC hints hlen hg) fun r s' hq=>?_)
 obtain ⟨rfl,h2,h3,h4⟩:=hq
 exact ⟨.inl ⟨.bool true,.bool true,[],rfl,fun _=>rfl,.bool true,zN l _,fun _=>⟨List.Pairwise.nil,fun _ hm=>(nomatch hm)⟩⟩,h2,h3,h4⟩
section
variable {prog:Program} {w:World} {A:Around} {E:Value→Shared→Prop} {s:Shared} {K:Frag}
end
end Rh
namespace L2
open PySem PySem.Spec PyProof.Rows
theorem q_:∀ {vs:List Value} {ns:List Int},IntsAre vs ns→Vals (ns.map V.int) vs
 | _,_,.nil=>.nil
 | _,_,.cons n t h=>.cons ⟨t,rfl⟩ (q_ h)
def Og (H:Hp):Prop:=∀ b,H b=none∨∃ o xs,H b=some (.ue o (.lst xs))
theorem B6 {P:Program} {w:World} {K:PySem.W.Frag} {mg mb:Str→Option Value} {CX:wA} {k:Nat} {fa a:Addr} {fd:FuncData} {x:Str} {sp:Sp} {s₁:Shared} {vs:List Value} {ns:List Int}
  (KX:K.In s₁.heap) (SU:s₁.heap.Ns mainGlobals mg) (hb:s₁.heap.Ns builtinsNs mb) (W8:∀ x:Str,x≠"__name__"→mb x=bootBuiltins x) (SV:s₁.heap.NoLimit) (hg:s₁.gens = #[])
  (ha:s₁.heap.get? a=some { cls:=.type "list",data:=.seq vs.toArray }) (hi:IntsAre vs ns) (hl:ns.length≤sizeLine) (hr:bp k callerA)
  (F:∀ base:Heap,K.In base→base.Ns mainGlobals mg→cN P w K mg base CX k fa fd [x] sp) (Oh:∀ (s:Shared) (u:Value),BindsTo s fd ⟨[u],[]⟩ [(x,u)])
  (Ip:∀ H:Hp,Og H→eJ K H a (ns.map V.int)→sp [.ref a] H (fun v _=>v = .bl true) fun _ _ _=>False)
  (W9:∀ H e s',CX [] H s₁ (fun _ _ _=>False) e s'→False) :
  codeAny (model P w) callerA (.call (.ref fa) ⟨[.ref a],[]⟩) (fun r s'=>r = .ok (.ret (.bool true))∧OldK s₁.heap s'.heap∧s'.os=s₁.os∧AllBare s'.gens) s₁:=by
 have rv:=q_ hi
 have SW:=hi.length
 have core:∀ H:Hp,Og H→eJ K H a (ns.map V.int)→jD P w H s₁.heap→(∀ b,H b≠none→b=a)→(H a≠none→K.lookup a=none) →
   codeAny (model P w) callerA (.call (.ref fa) ⟨[.ref a],[]⟩) (fun r s'=>r = .ok (.ret (.bool true))∧OldK s₁.heap s'.heap∧s'.os=s₁.os∧AllBare s'.gens) s₁:=by
  intro H hO hS bC hA hK
  have yG:∀ {b:Addr} {o:Obj},s₁.heap.get? b=some o→H b=none→(rX s₁.heap H).get? b=some o:=fun e n=>BJ e n
  have NZ:∀ {b:Addr} {o:Obj} {es:Array DictEntry} {ep:Nat},s₁.heap.get? b=some o→o.data = .dict es ep→H b=none:=fun {b o es ep} e d=>by
   cases q:H b with
   | none=>rfl
   | some u =>
     have e':b=a:=hA b (by rw [q]; simp)
     subst e'
     rw [ha] at e; cases e
     have d':Data.seq vs.toArray _=Data.dict es ep:=d
     cases d'
  have Ri:∀ {b:Addr} {m:Str→Option Value},s₁.heap.Ns b m→(rX s₁.heap H).Ns b m:=fun {b m} ⟨o,es,ep,e,d,r⟩=>⟨o,es,ep,yG e (NZ e d),d,r⟩
  have V4:K.In (rX s₁.heap H):=fun b o e=>yG (KX b o e) (by
   cases q:H b with
   | none=>rfl
   | some u =>
     have e':b=a:=hA b (by rw [q]; simp)
     subst e'
     rw [hK (by rw [q]; simp)] at e; cases e)
  have hM:Mod K mg (rX s₁.heap H):=⟨V4,Ri SU,⟨mb,Ri hb,W8⟩,let ⟨mc,h1,h2⟩:=SV; ⟨mc,Ri h1,h2⟩⟩
  have e0:qh P w K mg (rX s₁.heap H) callerA [] s₁ H:=⟨rfl,hM,fun b o e=>Fd e,Nat.le_of_eq (zE _ _),trivial,fun b hb=>absurd (show b∈([]:List Addr) from hb) (by simp),bC,.of_eq hg⟩
  refine codeAny_mono ((F _ V4 (Ri SU)).run callerA [] s₁ H ⟨[.ref a],[]⟩ [.ref a] [.ref a] _ _ hr e0 (Oh s₁ (.ref a)) (.cons rfl .nil) (Ip H hO hS)) fun r s' h=>?_
  cases r with
  | error e=>exact (W9 H e s' h).elim
  | ok fl =>
    cases fl with
    | ret u =>
      obtain ⟨v,H',os,bare,un,SX,r',q⟩:=h
      have q':v = .bl true:=q
      subst q'
      obtain rfl:u=Value.bool true:=r'
      refine ⟨rfl,OldK.of_keep fun b o e=>?_,os,bare⟩
      cases q:H b with
      | none=>exact un.keep b o e q (by intro z; exact absurd (show b∈([]:List Addr) from z) (by simp)) (by simp)
      | some u =>
        rcases hO b with z | ⟨ob,xs,z⟩
        · rw [q] at z; cases z
        · have z2:=un.gG b ob _ z
          obtain ⟨e1,_⟩:=bC b _ z
          obtain ⟨e2,_⟩:=SX b _ z2
          rw [e] at e1; cases e1
          exact e2
    | _=>exact False.elim h
 cases hk:K.lookup a with
 | some o =>
   have e:=KX a o hk
   rw [ha] at e
   cases e
   refine core (fun _=>none) (fun _=>.inl rfl) (.inr ⟨_,vs.toArray,_,hk,rfl,rfl,rfl,by rw [gD,SW]; exact hl,by simpa using rv⟩) (fun b u z=>by have z':(none:Option HO)=some u:=z; cases z') (fun b z=>absurd rfl z) fun z=>absurd rfl z
 | none =>
   refine core (fun b=>if b=a then some (.ue { cls:=.type "list",data:=.seq vs.toArray } (.lst (ns.map V.int))) else none) (fun b=>?_) (.inl (.inr ⟨{ cls:=.type "list",data:=.seq vs.toArray },if_pos rfl⟩)) (fun b u z=>?_) (fun b z=>?_) fun _=>hk
   · by_cases hb:b=a
     · exact .inr ⟨_,_,if_pos hb⟩
     · exact .inl (if_neg hb)
   · by_cases hb:b=a
     · have z':=(if_pos hb).symm.trans z
       cases z'
       subst hb
       exact ⟨ha,by rw [bZ]; exact hl,vs,_,rv,ha⟩
     · have z':=(if_neg hb).symm.trans z
       cases z'
   · by_cases hb:b=a
     · exact hb
     · exact absurd (if_neg hb) z
def inClass (s:Stmt) (j:Nat):Stmt:=match s with
 | .ClassDef _ _ _ body _ _ _ _ _ _ _=>body.getD j (.Pass ⟨0,0,0,0⟩)
 | _=>.Pass ⟨0,0,0,0⟩
def ei (s:Stmt):Arguments:=match s with
 | .FunctionDef _ a _ _ _ _ _ _ _ _=>a
 | _=>{ posonlyargs:=[],args:=[],vararg:=none,kwonlyargs:=[],kw_defaults:=[],kwarg:=none,defaults:=[] }
def cx (s:Stmt):List Stmt:=match s with
 | .FunctionDef _ _ b _ _ _ _ _ _ _=>b
 | _=>[]
def aj (s:Stmt):Scope:=match s with
 | .FunctionDef _ _ _ _ _ _ sc _ _ _=>sc
 | _=>{ kind:=.function,names:=[],isGenerator:=false,isCoroutine:=false }
abbrev iN:wA:=fun _ _ _ _ _ _=>False
abbrev E0:XK:=fun _ _ _=>False
theorem uA {X:Cx}:Passes iN X E0:=fun _ _ _ _ _ _ _ h=>h.elim
structure BC (K:PySem.W.Frag) (x qual:Str) (st:Stmt) (f:Addr) (fd:FuncData):Prop where
 ex:∃ (oc:Value) (od:Option Addr) (kV doc pm:Value) (an:Option Addr) (bD ct:Value) (yy:Array (Option Value)),
  fd=PySem.W.fnOf x qual (ei st) (cx st) (aj st) .none kV doc pm an bD ct∧K.lookup f=some ⟨oc,od,.func fd,yy⟩∧PySem.W.codeIn K bD qual=true
 kp:PySem.W.keepIn K (.ref f)=true
section
variable {P:Program} {w:World} {K:PySem.W.Frag} {mg:Str→Option Value} {base:Heap}
theorem BC.ok {x qual:Str} {st:Stmt} {f:Addr} {fd:FuncData} {N ps:List Str} {k:Nat} {sp:Sp} (F:BC K x qual st f fd) (S:aI N ps (aj st)) (len:∀ vs H Q E,sp vs H Q E→vs.length=ps.length)
  (iJ:∀ (bD:Value) (A:Around) (outer:List Env) (s:Shared) (H:Hp) (vs:List V) (Q:VK) (E:XK),bp k (A.deeper (envOfC qual (aj st) s.heap.objs.size f bD))→sp vs H Q E →
    ∃ t,nH (dI iN P w K mg base N qual (aj st) f bD A outer s H E).nI (cx st) t∧t { nx:=fun _ H'=>Q .bu H',rt:=Q } (start N vs) H):cN P w K mg base iN (k+1) f fd ps sp:=by
 obtain ⟨oc,od,kV,doc,pm,an,bD,ct,yy,rfl,lk,iB⟩:=F.ex
 refine Io lk iB S len fun A outer s H vs Q E hr Ip=>?_
 obtain ⟨t,h,q⟩:=iJ bD A outer s H vs Q E hr Ip
 exact ⟨t,h.nI,q⟩
theorem BC.binds {x qual:Str} {st:Stmt} {f:Addr} {fd:FuncData} {ps:List Str} (F:BC K x qual st f fd)
  (h:∀ (kV doc pm:Value) (an:Option Addr) (bD ct:Value) (us:List Value),us.length=ps.length→bindArgs (PySem.W.fnOf x qual (ei st) (cx st) (aj st) .none kV doc pm an bD ct) ⟨us,[]⟩=pure (ps.zip us)):Binds K fd ps []:=by
 obtain ⟨oc,od,kV,doc,pm,an,bD,ct,yy,rfl,lk,iB⟩:=F.ex
 exact .all (h kV doc pm an bD ct)
theorem sj {x qual:Str} {st:Stmt} {f:Addr} {oc:Value} {od an:Option Addr} {yy:Array (Option Value)} {kV doc pm bD ct:Value} (l:K.lookup f=some ⟨oc,od,.func (PySem.W.fnOf x qual (ei st) (cx st) (aj st) .none kV doc pm an bD ct),yy⟩)
 (c:PySem.W.codeIn K bD qual=true) (k:PySem.W.keepIn K (.ref f)=true):BC K x qual st f (PySem.W.fnOf x qual (ei st) (cx st) (aj st) .none kV doc pm an bD ct):=⟨⟨oc,od,kV,doc,pm,an,bD,ct,yy,rfl,l,c⟩,k⟩
end
theorem zO {n:Nat} (h:n≤1000):n < sizeLine:=Nat.lt_of_le_of_lt h (by decide)
section
variable {X:Cx}
theorem pv (i:Nat) {x:Str} {pos:Pos} (hN:X.N[i]?=some x:=by rfl) (hv:rY X.env.scope x:=by first | exact Or.inl rfl | exact Or.inr (Or.inl rfl) | exact Or.inr (Or.inr rfl)) (hd:gg x:=by decide)
 (iB:ug x:=by decide):PE X (.Name x pos) (JK i):=cW hN hv hd iB
end
theorem Oi {A B:Prop} (h:B):if false=true then A else B:=by
 rw [if_neg qa]
 exact h
theorem Oj {A B:Prop} (h:A):if true=true then A else B:=by
 rw [if_pos rfl]
 exact h
theorem B7 {c A B:Prop} [Decidable c] (h1:c→A) (h2:¬ c→B):if c then A else B:=by
 by_cases h:c
 · rw [if_pos h]
   exact h1 h
 · rw [if_neg h]
   exact h2 h
def aK (H H':Hp):Prop:=∀ b o,H b=some o→H' b=some o
theorem aK.refl (H:Hp):aK H H:=fun _ _ h=>h
theorem aK.trans {H H1 H2:Hp} (a:aK H H1) (b:aK H1 H2):aK H H2:=fun c o h=>b c o (a c o h)
theorem aK.free {H H':Hp} (e:aK H H') {l:Addr} (h:H' l=Option.none):H l=Option.none:=by
 cases q:H l with
 | none=>rfl
 | some o =>
   rw [e l o q] at h
   cases h
theorem aK.seq {K:PySem.W.Frag} {H H':Hp} {a:Addr} {xs:List V} (e:aK H H') (h:eJ K H a xs):eJ K H' a xs:=by
 rcases h with (h | ⟨o,h⟩) | h
 · exact .inl (.inl (e _ _ h))
 · exact .inl (.inr ⟨o,e _ _ h⟩)
 · exact .inr h
section
theorem gK {env:Env} {f:Str×NameKind→List (Str×Addr)→Sem (ForInStep (List (Str×Addr)))}:∀ (l:List (Str×NameKind)) (cs:List (Str×Addr)),
  (∀ p∈l,∀ r,(p.2 = .free→∃ c,env.cells.lookup p.1=some c∧f p r=pure (.yield ((p.1,c) :: r)))∧(p.2≠.free→f p r=pure (.yield r))) →
  ∃ cl,forIn l cs f=pure cl∧(∀ y c,cl.lookup y=some c→cs.lookup y=some c∨env.cells.lookup y=some c)∧(∀ y,(cs.lookup y).isSome=true→(cl.lookup y).isSome=true) ∧
   ∀ p∈l,p.2 = .free→(cl.lookup p.1).isSome=true
 | [],cs,_=>⟨cs,by rw [List.forIn_nil],fun _ _ h=>.inl h,fun _ h=>h,fun _ h=>nomatch h⟩
 | p :: l,cs,hf=>by
   have hr:∀ q∈l,∀ r,(q.2 = .free→∃ c,env.cells.lookup q.1=some c∧f q r=pure (.yield ((q.1,c) :: r)))∧(q.2≠.free→f q r=pure (.yield r)):=fun q hq r=>hf q (jC _ hq) r
   by_cases hp:p.2 = .free
   · obtain ⟨c,hc,e⟩:=(hf p ij cs).1 hp
     obtain ⟨cl,h1,h2,h3,h4⟩:=gK l ((p.1,c) :: cs) hr
     refine ⟨cl,?_,fun y d h=>?_,fun y h=>h3 y ?_,fun q hq Rj=>?_⟩
     · rw [List.forIn_cons,e]
       exact h1
     · rcases h2 y d h with z | z
       · rw [Fb] at z
         cases hy:y == p.1 with
         | true =>
           rw [hy] at z
           have ey:y=p.1:=eq_of_beq hy
           cases z
           rw [ey]
           exact .inr hc
         | false=>rw [hy] at z; exact .inl z
       · exact .inr z
     · rw [Fb]
       cases hy:y == p.1 with
       | true=>rfl
       | false=>exact h
     · rcases dD.mp hq with z | z
       · subst z
         refine h3 _ ?_
         rw [Fb,beq_self_eq_true]
         rfl
       · exact h4 q z Rj
   · have e:=(hf p ij cs).2 hp
     obtain ⟨cl,h1,h2,h3,h4⟩:=gK l cs hr
     refine ⟨cl,?_,h2,h3,fun q hq Rj=>?_⟩
     · rw [List.forIn_cons,e]
       exact h1
     · rcases dD.mp hq with z | z
       · subst z; exact absurd Rj hp
       · exact h4 q z Rj
theorem il {scope:Scope} {env:Env} (h:∀ p∈scope.names,p.2 = .free→∃ c,env.cells.lookup p.1=some c) :
  ∃ cl,closureFor scope env=pure cl∧(∀ y c,cl.lookup y=some c→env.cells.lookup y=some c)∧∀ p∈scope.names,p.2 = .free→∃ c,cl.lookup p.1=some c:=by
 have key:∃ cl,closureFor scope env=pure cl∧(∀ y c,cl.lookup y=some c→([]:List (Str×Addr)).lookup y=some c∨env.cells.lookup y=some c)∧(∀ y,(([]:List (Str×Addr)).lookup y).isSome=true→(cl.lookup y).isSome=true) ∧
   ∀ p∈scope.names,p.2 = .free→(cl.lookup p.1).isSome=true:=by
  simp only [closureFor]
  have go:=@gK env (fun x r=>if x.2 == NameKind.free then (do let c ← cellOf env x.1; pure (ForInStep.yield ((x.1,c) :: r))) else pure (ForInStep.yield r)) scope.names [] ?_
  · obtain ⟨cl,h1,h2⟩:=go
    refine ⟨cl,?_,h2⟩
    first
     | (show (forIn scope.names [] _ >>= fun cs=>pure cs)=_; rw [h1]; rfl)
     | (rw [h1]; rfl)
     | exact congrArg (· >>= pure) h1
  · intro p hp r
    refine ⟨fun hf=>?_,fun hf=>?_⟩
    · obtain ⟨c,hc⟩:=h p hp hf
      refine ⟨c,hc,?_⟩
      have e1:(p.2 == NameKind.free)=true:=by rw [hf]; rfl
      have e2:cellOf env p.1=pure c:=by unfold cellOf; rw [hc]
      rw [e1,if_pos rfl,e2]
      rfl
    · have e1:(p.2 == NameKind.free)=false:=by simpa using hf
      rw [e1,if_neg (by decide)]
 obtain ⟨cl,h1,h2,h3,h4⟩:=key
 refine ⟨cl,h1,fun y c e=>?_,fun p hp hf=>R3.mp (h4 p hp hf)⟩
 rcases h2 y c e with z | z
 · rw [List.lookup_nil] at z; cases z
 · exact z
theorem kB {scope:Scope} {env:Env} (y:Str):(relabel scope env).names.lookup y =
  (scope.names.lookup y).map fun k=>if (k == .free && env.scope.kind == .function && env.kindOf y == some .cell)=true then .cell else k:=by
 have key:∀ l:List (Str×NameKind),(l.map fun (n,k)=>if (k == NameKind.free && env.scope.kind == .function && env.kindOf n == some .cell) then (n,NameKind.cell) else (n,k)).lookup y =
   (l.lookup y).map fun k=>if (k == .free && env.scope.kind == .function && env.kindOf y == some .cell)=true then .cell else k:=by
  intro l
  induction l with
  | nil=>rfl
  | cons p l ih =>
    obtain ⟨n,k⟩:=p
    rw [iF]
    show List.lookup y ((if (k == NameKind.free && env.scope.kind == .function && env.kindOf n == some .cell)=true then (n,NameKind.cell) else (n,k)) :: _)=_
    by_cases hc:(k == NameKind.free && env.scope.kind == .function && env.kindOf n == some .cell)=true
    · rw [if_pos hc,Fb,Fb]
      cases hy:y == n with
      | true =>
        have ey:y=n:=eq_of_beq hy
        subst ey
        show some NameKind.cell=some (if _ then _ else _)
        rw [if_pos hc]
      | false=>exact ih
    · rw [if_neg hc,Fb,Fb]
      cases hy:y == n with
      | true =>
        have ey:y=n:=eq_of_beq hy
        subst ey
        show some k=some (if _ then _ else _)
        rw [if_neg hc]
      | false=>exact ih
 exact key scope.names
end
def jU (N ts:List Str) (out sc:Scope):Bool :=
 (sc.kind == .function) && sc.names.all (fun p=>(p.2 != .cell) && (p.2 != .free || out.names.lookup p.1 == some .cell || out.names.lookup p.1 == some .free) && (p.2 != .local || sc.names.lookup p.1 == some .local))
   && N.all (fun y=>sc.names.lookup y != some .local) && ts.all (fun y=>sc.names.lookup y == some .local) && decide ((N ++ ts).Nodup)
structure n_ (N ts:List Str) (out sc:Scope):Prop where
 kind:sc.kind = .function
 B8:∀ p∈sc.names,p.2≠.cell
 fr:∀ p∈sc.names,p.2 = .free→out.names.lookup p.1=some .cell∨out.names.lookup p.1=some .free
 names:∀ p∈sc.names,p.2 = .local→sc.names.lookup p.1=some .local
 own:∀ y∈N,sc.names.lookup y≠some .local
 Z1:∀ y∈ts,sc.names.lookup y=some .local
 nd:(N ++ ts).Nodup
theorem rf {N ts:List Str} {out sc:Scope} (h:jU N ts out sc=true):n_ N ts out sc:=by
 unfold jU at h
 rw [iE,iE,iE,iE] at h
 obtain ⟨⟨⟨⟨h1,h2⟩,h3⟩,h4⟩,h5⟩:=h
 rw [zx] at h2 h3 h4
 refine ⟨eq_of_beq h1,fun p hp=>?_,fun p hp hf=>?_,fun p hp hl=>?_,fun y hy=>?_,fun y hy=>?_,of_decide_eq_true h5⟩
 · have:=h2 p hp
   rw [iE,iE] at this
   simpa using this.1.1
 · have:=h2 p hp
   rw [iE,iE] at this
   have q:=this.1.2
   rw [hf] at q
   simpa using q
 · have:=h2 p hp
   rw [iE,iE] at this
   have q:=this.2
   rw [hl] at q
   simpa using q
 · simpa using h3 y hy
 · simpa using h4 y hy
def bo (X:Cx) (ts:List Str) (sc:Scope) (cl:List (Str×Addr)) (C:Addr) (fp:List Addr) (s:Shared) (H:Hp):Cx where
 prog:=X.prog
 w:=X.w
 K:=X.K
 mg:=X.mg
 base:=X.base
 A:=X.A
 N:=X.N ++ ts
 s₀:=s
 H₀:=H
 env:=compEnvC sc cl C X.env
 outer:=X.stack
 stack:=X.stack
 ex:=fp
 fn:=fun _=>false
 calm:=X.calm
 pn:=[]
 xe:=fun _ _=>False
section
variable {X:Cx} {pins:List (Addr×Obj)} {σ:St} {H:Hp} {s:Shared} {ts:List Str} {sc:Scope} {cl:List (Str×Addr)} {C D:Addr} {fp:List Addr}
theorem rg (hS:n_ X.N ts X.env.scope sc) {y:Str} (h:rY (relabel sc X.env) y):sc.names.lookup y=some .local∨(sc.names.lookup y=some .free∧((relabel sc X.env).names.lookup y=some .cell∨(relabel sc X.env).names.lookup y=some .free)):=by
 have e:=kB (scope:=sc) (env:=X.env) y
 cases hk:sc.names.lookup y with
 | none =>
   rw [hk] at e
   have e':(relabel sc X.env).names.lookup y=none:=e
   rcases h with h | h | h <;> rw [e'] at h <;> cases h
 | some k =>
   have hm:(y,k)∈sc.names:=H_ hk
   rw [hk] at e
   cases k with
   | «local»=>exact .inl rfl
   | cell=>exact absurd rfl (hS.B8 _ hm)
   | free =>
     refine .inr ⟨rfl,?_⟩
     rw [e,Option.map_some]
     by_cases hc:(NameKind.free == .free && X.env.scope.kind == .function && X.env.kindOf y == some .cell)=true
     · rw [if_pos hc]; exact .inl rfl
     · rw [if_neg hc]; exact .inr rfl
   | globalExplicit =>
     have e':(relabel sc X.env).names.lookup y=some .globalExplicit:=e
     rcases h with h | h | h <;> rw [e'] at h <;> cases h
   | globalImplicit =>
     have e':(relabel sc X.env).names.lookup y=some .globalImplicit:=e
     rcases h with h | h | h <;> rw [e'] at h <;> cases h
theorem yH (I:Inv X pins σ H s) (hf:∀ b∈fp,lF X pins H b):∀ b∈fp,b∉kn X.stack:=fun b hb z=>by
 obtain ⟨_,f1,f2,_⟩:=hf b hb
 rcases dD.mp (I.wg b z) with e | e
 · exact f1 e
 · exact f2 e
theorem FK (I:Inv X pins σ H s) (hf:∀ b∈fp,lF X pins H b) (KD:∀ b∈fp,∃ o,s.heap.get? b=some o) (hS:n_ X.N ts X.env.scope sc)
  (c1:∀ y c,cl.lookup y=some c→X.env.cells.lookup y=some c) (c2:∀ p∈sc.names,p.2 = .free→∃ c,cl.lookup p.1=some c)
  (hC:s.heap.objs.size≤C) (hD:s.heap.objs.size≤D) (Rk:D≠C) {h1:Heap} {m:Str→Option Value} {n:Nat} {t:Nat} (k:∀ b o,s.heap.get? b=some o→h1.get? b=some o) (hn:h1.Ns C m)
  (hd:h1.get? D=some { cls:=.type "list",data:=.seq ([]:List Value).toArray n }) :
  Inv (bo X ts sc cl C fp s H) [] (σ ++ ts.map fun _=>none) (upd H D (.lst [])) { s with heap:=h1,toks:=t }:=by
 have sz:=I.sz
 have SY:∀ b∈fp,b < s.heap.objs.size:=fun b hb=>by obtain ⟨o,e⟩:=KD b hb; exact dG e
 have BL:∀ y c,cl.lookup y=some c→c < s.heap.objs.size:=fun y c e=>by obtain ⟨v,q⟩:=I.cell y c (c1 y c e); exact q.lt
 have ok:(bo X ts sc cl C fp s H).Ok:=by
  refine ⟨I.ok.mod,hS.kind,I.ok.glob,I.ok.blt,hC,fun x y c e1 e2=>I.ok.inj x y c (c1 x c e1) (c1 y c e2),fun x hx=>?_,fun x c hx=>absurd hx (by simp [bo]),I.ok.hd,I.ok.frames,.inl rfl,fun b hb=>?_,fun b o e=>I.bs b o e,
   mD I.ok.Bv sz,fun b o e hb=>?_,yH I hf,I.stack,fun b hb=>I.nG b hb⟩
  · have hv:rY (relabel sc X.env) x:=by
     rcases hx with hx | hx
     · exact .inr (.inl hx)
     · exact .inr (.inr hx)
    rcases rg hS hv with z | ⟨z,_⟩
    · have e:=kB (scope:=sc) (env:=X.env) x
      rw [z] at e
      have e':(relabel sc X.env).names.lookup x=some .local:=e
      have M9:(relabel sc X.env).names.lookup x=some .cell∨(relabel sc X.env).names.lookup x=some .free:=hx
      rw [e'] at M9
      rcases M9 with q | q <;> cases q
    · exact c2 _ (H_ z) rfl
  · exact ⟨fun e=>absurd (nF (SY b hb) hC) (by have e':b=C:=e; rw [e']; exact EM _),fun x c e z=>(hf b hb).2.2.2.2.1 x c (c1 x c e) z⟩
  · rcases (hf b hb).2.2.2.1 with z | z
    · exact I.ok.zF b o e z
    · exact absurd (nF (dG e) (mD I.ok.Bv z)) (EM _)
 have W_:H D=none:=I.bC.fresh hD
 refine ⟨ok,rfl,I.bare,Un.laid k hD W_,⟨m,hn,fun i x v e1 e2 e3=>?_⟩,fun x c e=>?_,?_,fun x c e=>?_,fun p hp=>absurd (show p∈([]:List (Addr×Obj)) from hp) (by simp),I.bC.laid k hD ⟨km _,[],n,.nil,hd⟩,?_⟩
 · have hi:i < σ.length:=by
    by_cases hi:i < σ.length
    · exact hi
    · rw [BH (by omega),ly] at e2
      cases q:ts[i - σ.length]? with
      | none=>rw [q] at e2; cases e2
      | some a=>rw [q] at e2; cases e2
   have ES:σ[i]?=some (some v):=by rw [uh hi] at e2; exact e2
   have V5:X.N[i]?=some x:=by
    have Ol:(X.N ++ ts)[i]?=some x:=e1
    rw [uh (by rw [← I.len]; exact hi)] at Ol
    exact Ol
   rcases rg hS e3 with z | ⟨z,zr⟩
   · exact absurd z (hS.own x (mW V5))
   · have hm:=H_ z
     have ho:=hS.fr _ hm rfl
     obtain ⟨m0,_,hl⟩:=I.loc
     obtain ⟨u,r,l⟩:=hl i x v V5 ES (.inr ho)
     obtain ⟨c',NA⟩:=c2 _ hm rfl
     rcases l with ⟨l,_⟩ | ⟨_,c,hc,z2⟩
     · have l':X.env.scope.names.lookup x=some .local:=l
       rw [l'] at ho
       rcases ho with q | q <;> cases q
     · have ec:=c1 x c' NA
       rw [hc] at ec
       cases ec
       exact ⟨u,r,.inr ⟨zr,_,NA,z2.keeps k⟩⟩
 · obtain ⟨v,z⟩:=I.cell x c (c1 x c e)
   exact ⟨v,z.keeps k⟩
 · show upd H D (.lst []) C=none
   rw [aE (Ne.symm Rk)]
   exact I.bC.fresh hC
 · show upd H D (.lst []) c=none
   rw [aE (gF (nF (BL x c e) hD))]
   exact I.d9 x c (c1 x c e)
 · show (σ ++ ts.map fun _=>none).length=(X.N ++ ts).length
   rw [qd,qd,bZ,I.len]
theorem uB (I:Inv X pins σ H s) (hf:∀ b∈fp,lF X pins H b) {yu:List (Addr×Obj)} {σ':St} {H':Hp} {s':Shared} (J:Inv (bo X ts sc cl C fp s H) yu σ' H' s'):Inv X pins σ H' s' :=
 I.BN J.os J.base J.bC J.bare fun b hb=>by
  obtain ⟨_,f1,_,f3,f4,f5⟩:=hf b hb
  exact ⟨f3,f1,f4,f5⟩
end
section
variable {prog:Program} {w:World} {A:Around} {R:Result→Shared→Prop} {s:Shared}
theorem jE {elt target iter:Expr} {ifs:List Expr} {scope:Scope} {pos:Pos} {it acc:Value} {env:Env} (I:Nat→Shared→Prop)
  (turn:∀ n s,I n s→wpAny (model prog w) A (pyNext it) (fun r s₁=>match r with
    | none=>R (.ok .next) s₁
    | some v=>wpAny (model prog w) A (letOwnedTupleGo target it v) (fun _ V6=>wpAny (model prog w) A (assign target env v) (fun _ s₂ =>
       wpAny (model prog w) A (forIn ifs true fun c r=>if r=true then do let ok ← isTrue c env (eval c env); pure (ForInStep.yield ok) else pure (ForInStep.yield r)) (fun ok s₃ =>
        if ok=true then wpAny (model prog w) A (eval elt env) (fun x s₄ =>
         wpAny (model prog w) A (call (.builtin "list.append") [acc,x]) (fun _ s₅=>∃ m,m < n∧I m s₅) (notedBy (model prog w) A env fun e s'=>R (.error e) s') s₄) (notedBy (model prog w) A env fun e s'=>R (.error e) s') s₃
        else ∃ m,m < n∧I m s₃) (notedBy (model prog w) A env fun e s'=>R (.error e) s') s₂) (notedBy (model prog w) A env fun e s'=>R (.error e) s') V6)
       (notedBy (model prog w) A env fun e s'=>R (.error e) s') s₁) (notedBy (model prog w) A env fun e s'=>R (.error e) s') s)
  (n:Nat) (h:I n s):codeAny (model prog w) A (.compLoop (.ListComp elt [⟨target,iter,ifs,0⟩] scope pos) 0 it acc env) R s:=by
 refine codeAny_loop rfl I (fun n s hI=>?_) n h
 show wpAny _ A ((compTurn (.ListComp elt [⟨target,iter,ifs,0⟩] scope pos) 0 it acc env).onRaise (fun x=>do noteFrame x env; theTreesLotGoes x)) _ _ s
 refine wpAny_noted ?_
 rw [compTurn_list]
 refine wpAny_bind (wpAny_standAt (wpAny_bind (wpAny_mono (turn n s hI) (fun r s₁ h₁=>?_) fun _ _ h'=>h')))
 cases r with
 | none=>exact wpAny_pure h₁
 | some v =>
   refine wpAny_bind (wpAny_mono h₁ (fun _ V6 Xa=>?_) fun _ _ h'=>h')
   refine wpAny_bind (wpAny_mono Xa (fun _ s₂ h₂=>wpAny_bind (wpAny_mono h₂ (fun ok s₃ h₃=>?_) fun _ _ h'=>h')) fun _ _ h'=>h')
   cases ok with
   | false=>exact wpAny_pure ⟨rfl,h₃⟩
   | true =>
     exact wpAny_bind (wpAny_bind (wpAny_mono h₃ (fun x s₄ h₄=>wpAny_bind (wpAny_mono h₄ (fun _ s₅ h₅=>wpAny_pure (wpAny_pure ⟨rfl,h₅⟩)) fun _ _ h'=>h')) fun _ _ h'=>h'))
end
def B9 (X:Cx) (ifs:List Expr) (t:TT):Prop :=
 ∀ (pins:List (Addr×Obj)) (s:Shared) (σ:St) (H:Hp) (Q:Bool→Hp→Prop),Inv X pins σ H s→t σ H Q →
  wpAny (model X.prog X.w) X.A (forIn ifs true fun c r=>if r=true then do let ok ← isTrue c X.env (eval c X.env); pure (ForInStep.yield ok) else pure (ForInStep.yield r)) (TP X pins σ Q) X.xe s
def S0:TT:=fun _ H Q=>Q true H
theorem FL {X:Cx}:B9 X [] S0:=fun _ _ _ H _ I h=>wpAny_tests_nil ⟨H,I,h⟩
theorem FN {X:Cx} {c:Expr} {t:TT} (h:PT X c t):B9 X [c] t:=fun pins s σ H Q I hw=>wpAny_tests_one (h pins s σ H Q I hw)
def uC (J:It) (g:TG) (tt:TT) (te:TE) (n:Nat) (σ:St) (D:Addr) (Q:Hp→Prop) (H1:Hp):Prop :=
 ∃ W:Nat→Nat→List V→Hp→Prop,(∃ m,W 0 m [] (upd H1 D (.lst [])))∧∀ i m acc H2,W i m acc H2→H2 D=some (.lst acc) ∧
  ((J.stop i H2∧Q H2)∨(J.go i H2∧acc.length < sizeLine∧∀ x H3,J.M7 i H2 x H3→g x (σ ++ List.replicate n none) H3 fun σ4 H4=>(σ4.length=σ.length+n∧∀ (i:Nat) v,σ[i]?=some (some v)→σ4[i]?=some (some v)) ∧
    tt σ4 H4 fun b H5=>if b=true then te σ4 H5 fun y H6=>H6 D=some (.lst acc)∧∃ m',m' < m∧W (i+1) m' (acc ++ [y]) (upd H6 D (.lst (acc ++ [y]))) else ∃ m',m' < m∧W (i+1) m' acc H5))
section
variable {X:Cx} {pins:List (Addr×Obj)} {σ:St} {H:Hp} {s:Shared} {ts:List Str} {sc:Scope} {cl:List (Str×Addr)} {fp:List Addr}
theorem zP {Y:Cx} {pl:List (Addr×Obj)} {σ4:St} {H':Hp} {s':Shared} {n:Nat} (I:Inv Y pl σ4 H' s') (hl:σ4.length=σ.length+n) (hs:∀ (i:Nat) v,σ[i]?=some (some v)→σ4[i]?=some (some v)) :
  Inv Y pl (σ ++ List.replicate n none) H' s':=by
 refine I.weak (by rw [qd,E_,hl]) fun i v e=>?_
 by_cases hi:i < σ.length
 · rw [uh hi] at e
   exact hs i v e
 · rw [BH (by omega),Js] at e
   split at e <;> cases e
theorem uD {elt iter tg:Expr} {ifs:List Expr} {pos:Pos} {it:Addr} {tn:Nat→Heap→Prop} {J:It} {g:TG} {tt:TT} {te:TE} {Q:Hp→Prop} {RR:Value→Addr→Result→Shared→Prop} {E:Value→Shared→Prop}
  (hc:X.calm=true) (I:Inv X pins σ H s) (T:Turn X.prog X.w X.K tg J fp it tn) (st:tn 0 s.heap) (hf:∀ b∈fp,lF X pins H b) (hS:n_ X.N ts X.env.scope sc)
  (c1:∀ y c,cl.lookup y=some c→X.env.cells.lookup y=some c) (c2:∀ p∈sc.names,p.2 = .free→∃ c,cl.lookup p.1=some c)
  (hg:∀ C,PG (bo X ts sc cl C fp s H) tg g) (ht:∀ C,B9 (bo X ts sc cl C fp s H) ifs tt) (he:∀ C,PE (bo X ts sc cl C fp s H) elt te)
  (hw:uC J g tt te ts.length σ s.heap.objs.size Q H)
  (fin:∀ (C:Addr) (H':Hp) (s':Shared) (σ':St),s.heap.objs.size≤C→Inv (bo X ts sc cl C fp s H) [] σ' H' s'→Q H'→RR (.ref s.heap.objs.size) C (.ok .next) s') :
  wpAny (model X.prog X.w) X.A (newList []) (fun acc s₃=>wpAny (model X.prog X.w) X.A (newFunctionEnv sc X.env.globals cl [] X.env.qual none .none (some X.env)) (fun Om s₄ =>
   codeAny (model X.prog X.w) X.A (.compStart (.ListComp elt [⟨tg,iter,ifs,0⟩] sc pos) 0 (.ref it) acc { Om with scope:=relabel sc X.env }) (RR acc Om.locals) s₄) E s₃) E s:=by
 obtain ⟨W,⟨m0,w0⟩,turn⟩:=hw
 have S3:=T.obj 0 _ st
 have KD:∀ b∈fp,∃ o,s.heap.get? b=some o:=fun b hb=>let ⟨o,e,_⟩:=S3 b hb; ⟨o,e⟩
 refine wpAny_newObj_type (wpAny_newFunctionEnv hS.B8 (by intro y hy; simp at hy) (fun h₁ KG FQ=>?_) hS.kind)
 dsimp only at KG FQ ⊢
 generalize S4:s.heap.push { cls:=.type "list",dict:=none,data:=.seq ([]:List Value).toArray }=H2 at KG FQ ⊢
 have hC:H2.objs.size=s.heap.objs.size+1:=by rw [← S4,wc]
 have Rk:s.heap.objs.size≠H2.objs.size:=by rw [hC]; exact gF (Jy _)
 have Oo:s.heap.objs.size≤H2.objs.size:=by rw [hC]; exact JD _
 have below:∀ b,b < s.heap.objs.size→b≠H2.objs.size∧b≠s.heap.objs.size:=fun b hb=>⟨by rw [hC]; exact gF (Nu hb),gF hb⟩
 have old:∀ b o,s.heap.get? b=some o→h₁.get? b=some o:=fun b o e=>FQ.extBut b o (below b (dG e)).1 (de _ (S4▸de _ e))
 have S6:h₁.get? s.heap.objs.size=some { cls:=.type "list",data:=.seq ([]:List Value).toArray }:=FQ.extBut _ _ Rk (de _ (S4▸nE _ rfl))
 have Oq:tn 0 h₁:=T.keep _ _ _ st fun b hb o e=>old b o e
 have fresh:H s.heap.objs.size=none:=I.bC.fresh (dX _)
 have sr:∀ {H':Hp},(∀ b∈fp,H' b=none)→∀ b∈fp,lF (bo X ts sc cl H2.objs.size fp s H) [] H' b:=fun {H'} hn b hb=>by
  obtain ⟨o,e⟩:=KD b hb
  refine ⟨hn b hb,fun z=>?_,yH I hf b hb,.inl hb,fun x c e z=>(hf b hb).2.2.2.2.1 x c (c1 x c e) z,fun p hp=>absurd (show p∈([]:List (Addr×Obj)) from hp) (by simp)⟩
  have z':b=H2.objs.size:=z
  exact (below b (dG e)).1 z'
 have Xb:∀ b∈fp,(upd H s.heap.objs.size (.lst [])) b=none:=fun b hb=>by
  obtain ⟨o,e⟩:=KD b hb
  rw [aE (gF (dG e))]
  exact (hf b hb).1
 have eN:(ts.map fun _=>(none:Option V))=List.replicate ts.length none:=List.map_const'
 have loop:∀ s₃:Shared,s₃={ s with heap:=h₁,toks:=s.toks+([]:List (Str×Value)).length } →
   codeAny (model X.prog X.w) X.A (.compLoop (.ListComp elt [⟨tg,iter,ifs,0⟩] sc pos) 0 (.ref it) (.ref s.heap.objs.size) (compEnvC sc cl H2.objs.size X.env)) (RR (.ref s.heap.objs.size) H2.objs.size) s₃:=by
  rintro s₃ rfl
  have J0:=FK (ts:=ts) (t:=s.toks+([]:List (Str×Value)).length) I hf KD hS c1 c2 Oo (dX _) Rk old KG S6
  rw [eN] at J0
  refine jE (fun n s'=>∃ i acc H',Inv (bo X ts sc cl H2.objs.size fp s H) [] (σ ++ List.replicate ts.length none) H' s'∧tn i s'.heap∧(∀ b∈fp,H' b=none)∧W i n acc H') ?_ m0 ⟨0,[],_,J0,Oq,Xb,w0⟩
  rintro n s3 ⟨i,acc,H3,J3,NN,NO,w3⟩
  obtain ⟨Z2,alt⟩:=turn i n acc H3 w3
  rcases alt with ⟨stop,q⟩ | ⟨go,hz,step⟩
  · refine bX (T.done (bo X ts sc cl H2.objs.size fp s H) rfl rfl rfl hc i [] s3 _ H3 _ J3 (sr NO) NN stop) fun r s4 ⟨hr,J4⟩=>?_
    subst hr
    exact fin _ H3 s4 _ Oo J4 q
  · refine bX (T.item (bo X ts sc cl H2.objs.size fp s H) rfl rfl rfl hc i [] s3 _ H3 _ J3 (sr NO) NN go) fun r s4 ⟨u,hr,h4⟩=>?_
    subst hr
    refine bX h4 fun _ s5 ⟨x,H5,J5,r5,y5,J_,SE⟩=>?_
    have Xc:=J5.pinned (sr SE) (T.obj _ _ J_)
    have again:∀ {σ7:St} {H7:Hp} {s7:Shared},Inv (bo X ts sc cl H2.objs.size fp s H) ([] ++ n5 fp s5.heap) σ7 H7 s7→(σ7.length=σ.length+ts.length∧∀ (i:Nat) v,σ[i]?=some (some v)→σ7[i]?=some (some v))→∀ KH m',W (i+1) m' KH H7→m' < n →
      ∃ m,m < n∧∃ i acc H',Inv (bo X ts sc cl H2.objs.size fp s H) [] (σ ++ List.replicate ts.length none) H' s7∧tn i s7.heap∧(∀ b∈fp,H' b=none)∧W i m acc H':=fun {σ7 H7 s7} I7 hσ KH m' w7 hm=>by
     refine ⟨m',hm,i+1,KH,H7,zP I7.kr hσ.1 hσ.2,T.keep _ _ _ J_ fun b hb o e=>(I7.pin (b,o) (lj _ (lj _ (gH hb e)))).1,fun b hb=>?_,w7⟩
     obtain ⟨o,e,d⟩:=T.obj _ _ J_ b hb
     exact (I7.pin (b,o) (lj _ (lj _ (gH hb e)))).2.1
    refine wpAny_mono (hg H2.objs.size _ s5 _ H5 x u _ Xc r5 (step x H5 y5)) (fun _ s6 ⟨σ6,H6,J6,hσ,q6⟩=>?_) fun _ _ z=>False.elim z
    refine wpAny_mono (ht H2.objs.size _ s6 σ6 H6 _ J6 q6) (fun b s7 ⟨H7,J7,q7⟩=>?_) fun _ _ z=>False.elim z
    cases b with
    | false =>
      obtain ⟨m',hm,w7⟩:=q7
      exact again J7 hσ acc m' w7 hm
    | true =>
      show wpAny _ _ _ _ _ _
      refine wpAny_mono (he H2.objs.size _ s7 σ6 H7 _ J7 q7) (fun y s8 ⟨yv,H8,J8,ry,Xd,m',hm,w8⟩=>?_) fun _ _ z=>False.elim z
      refine wpAny_mono (bh (X:=bo X ts sc cl H2.objs.size fp s H) _ s8 σ6 H8 (.ref s.heap.objs.size) [yv] (.ref s.heap.objs.size) [y] (fun v H9=>v = .bu∧H9=upd H8 s.heap.objs.size (.lst (acc ++ [yv]))) J8 rfl (.cons ry .nil) ⟨_,acc,yv,rfl,rfl,Xd,hz,rfl,rfl⟩) (fun v9 s9 ⟨v,H9,J9,_,_,e9⟩=>?_) fun _ _ z=>False.elim z
      subst e9
      exact again J9 hσ (acc ++ [yv]) m' w8 hm
 exact codeAny_compStart_list (loop _ rfl) (T.self _ 0 _ _ _ Oq (loop _ rfl))
def B_ (n:Nat) (wi:TI) (g:TG) (tt:TT) (te:TE):TE:=fun σ H Q=>wi σ H fun J H1=>∀ D,H1 D=none→uC J g tt te n σ D (Q (.ref D)) H1
theorem uE (I:Inv X pins σ H s) (hS:n_ X.N ts X.env.scope sc):∀ p∈sc.names,p.2 = .free→∃ c,X.env.cells.lookup p.1=some c:=fun p hp hf=>by
 rcases hS.fr p hp hf with z | z
 · exact I.ok.has p.1 (.inl z)
 · exact I.ok.has p.1 (.inr z)
theorem FR {elt iter tg:Expr} {ifs:List Expr} {pos:Pos} {wi:TI} {g:TG} {tt:TT} {te:TE} (hc:X.calm=true) (hS:jU X.N ts X.env.scope sc=true) (hi:PI X tg iter wi)
  (hg:∀ cl C fp s H,PG (bo X ts sc cl C fp s H) tg g) (ht:∀ cl C fp s H,B9 (bo X ts sc cl C fp s H) ifs tt) (he:∀ cl C fp s H,PE (bo X ts sc cl C fp s H) elt te)
  (hs:∀ x,foldedSetIterable iter X.env x=pure x:=by intro _; rfl):PE X (.ListComp elt [⟨tg,iter,ifs,0⟩] sc pos) (B_ ts.length wi g tt te):=by
 intro pins s σ H Q I h
 have S:=rf hS
 obtain ⟨cl,B',c1,c2⟩:=il (uE I S)
 rw [eval_ListComp]
 refine wpAny_comprehension_free (use:=none) rfl hs B' S.kind S.names ?_
 refine bX (hi pins s σ H _ I h) fun v s1 h1=>bX h1 fun Ra s2 h2=>?_
 obtain ⟨it,fp,tn,J,H2,e,I2,T,Bw,f2,q2⟩:=h2
 subst e
 refine uD (E:=X.xe) (RR:=fun acc C=>compPost (model X.prog X.w) X.A X.xe none (EP X pins σ Q) acc C) hc I2 T Bw f2 S c1 c2 (fun C=>hg cl C fp s2 H2) (fun C=>ht cl C fp s2 H2) (fun C=>he cl C fp s2 H2) (q2 _ (I2.bC.fresh (dX _))) ?_
 intro C H' s' σ' hC J' q'
 obtain ⟨m,hn,_⟩:=J'.loc
 refine ⟨m,hn,fun h' sb=>?_⟩
 have I':=uB I2 f2 J'
 have fk:=I2.qf (H':=H') hC J'.free
 obtain ⟨f0,f1,_,f3,f4,f5⟩:=fk
 exact ⟨.ref _,H',I'.turned (t':=s'.toks) (fun b o hb e=>(sb.2 b hb).trans e) f0 f1 f3 f4 f5,rfl,q'⟩
theorem FT {i:Nat} {y:Str} {py:Pos} {uF:Pos} {elt iter tg:Expr} {ifs:List Expr} {pos:Pos} {wi:TI} {g:TG} {tt:TT} {te:TE} (hN:X.N.Nodup) (hy:X.N[i]?=some y) (hx:Loc X.env.scope y) (hc:X.calm=true) (hS:jU X.N ts X.env.scope sc=true) (hi:PI X tg iter wi)
  (hg:∀ cl C fp s H,PG (bo X ts sc cl C fp s H) tg g) (ht:∀ cl C fp s H,B9 (bo X ts sc cl C fp s H) ifs tt) (he:∀ cl C fp s H,PE (bo X ts sc cl C fp s H) elt te)
  (Ot:swapsWith (.ListComp elt [⟨tg,iter,ifs,0⟩] sc pos) (some (.Name y py)) uF.line X.env=pure true:=by rfl)
  (hs:∀ x,foldedSetIterable iter X.env x=pure x:=by intro _; rfl) (hf:X.fn y=true∨X.env.scope.names.lookup y=some .local:=by first | exact .inl rfl | exact .inr rfl | assumption) :
  PS X (.Assign [.Name y py] (.ListComp elt [⟨tg,iter,ifs,0⟩] sc pos) uF) (Fo (B_ ts.length wi g tt te) (ik i)):=by
 intro pins s σ H D I h
 have S:=rf hS
 obtain ⟨cl,B',c1,c2⟩:=il (uE I S)
 rw [exec_Assign_Name_used _ _ _ _ Ot]
 refine wpAny_bind (wpAny_standAt (wpAny_bind ?_))
 show wpAny _ X.A (do let _ ← comprehension (.ListComp elt [⟨tg,iter,ifs,0⟩] sc pos) sc X.env _ (newList []) false (eval iter X.env) (some (assign (.Name y py) X.env))) _ _ s
 refine wpAny_bind (wpAny_mono (wpAny_comprehension_free (use:=some (assign (.Name y py) X.env)) (Q:=fun _ s'=>SP X pins D .next s') (E:=X.xe) rfl hs B' S.kind S.names ?_) (fun _ s' hq=>wpAny_pure (wpAny_pure hq)) fun _ _ e=>e)
 refine bX (hi pins s σ H _ I h) fun v s1 h1=>bX h1 fun Ra s2 h2=>?_
 obtain ⟨it,fp,tn,J,H2,e,I2,T,Bw,f2,q2⟩:=h2
 subst e
 refine uD (E:=X.xe) (RR:=fun acc C=>compPost (model X.prog X.w) X.A X.xe (some (assign (.Name y py) X.env)) (fun _ s'=>SP X pins D .next s') acc C) hc I2 T Bw f2 S c1 c2 (fun C=>hg cl C fp s2 H2) (fun C=>ht cl C fp s2 H2) (fun C=>he cl C fp s2 H2) (q2 _ (I2.bC.fresh (dX _))) ?_
 intro C H' s' σ' hC J' q'
 obtain ⟨m,hn,_⟩:=J'.loc
 have I':=uB I2 f2 J'
 have fk:=I2.qf (H':=H') hC J'.free
 obtain ⟨f0,f1,_,f3,f4,f5⟩:=fk
 show wpAny _ X.A (assign (.Name y py) X.env (.ref s2.heap.objs.size)) _ _ s'
 refine wpAny_assign_Name (qV (v:=.ref s2.heap.objs.size) I' hN hy hx rfl (fun s3 I3 ⟨a,sb,ha⟩=>?_) hf)
 have Xe:C≠a:=by
  rcases ha with z | z
  · rw [z]; exact f1
  · exact fun e=>f4 y a z e.symm
 refine ⟨m,hn.sameBut sb Xe,fun h' Xf=>?_⟩
 exact ⟨_,H',I3.turned (t':=s3.toks) (fun b o hb e=>(Xf.2 b hb).trans e) f0 f1 f3 f4 f5,q'⟩
end
def Rl (x:Str):It:=⟨fun i _=>i < x.cps.size,fun i H v H'=>H'=H∧∃ c,x.cps[i]?=some c∧v = .str ⟨#[c]⟩,fun i _=>x.cps.size≤i⟩
theorem cP (x:Str):(strIterType x="str_ascii_iterator")∨(strIterType x="str_iterator"):=by
 unfold strIterType
 cases x.cps.all (· < 128)
 · exact .inr rfl
 · exact .inl rfl
theorem Ca {P:Program} {w:World} {K:PySem.W.Frag} {tg:Expr} (x:Str) (t:Tok) (it:Addr):Turn P w K tg (Rl x) [it] it (fun i h=>h.IsStrIter it (strIterType x) x t i) where
 mem:=by simp
 obj:=fun i h st b hb=>by
  have e:b=it:=by simpa using hb
  subst e
  obtain ⟨o,e,c,d⟩:=st
  exact ⟨o,e,fun v z=>by rw [d] at z; cases z⟩
 keep:=fun i h h' st k=>by
  obtain ⟨o,e,c,d⟩:=st
  exact ⟨o,k it (by simp) o e,c,d⟩
 item:=by
  intro X hP hw hK hc i pins s σ H E I hf st hg
  subst hP hw hK
  obtain ⟨f0,f1,f2,f3,f4,f5⟩:=hf it (by simp)
  have hi:i < x.cps.size:=hg
  have hx:x.cps[i]?=some x.cps[i]:=by simp [hi]
  have fin:∀ h',h'.IsStrIter it (strIterType x) x t (i+1)→Heap.SameBut it s.heap h'→∃ u,(some (Value.str ⟨#[x.cps[i]]⟩ s.toks):Option Value)=some u ∧
    wpAny (model X.prog X.w) X.A (letOwnedTupleGo tg (.ref it) u) (fun _ s2=>∃ y H',Inv X pins σ H' s2∧RelV y u∧(Rl x).M7 i H y H'∧Heap.IsStrIter s2.heap it (strIterType x) x t (i+1)∧∀ b∈[it],H' b=none) E { s with heap:=h',toks:=s.toks+1 }:=fun h' wm sb=>by
   have I1:Inv X pins σ H { s with heap:=h',toks:=s.toks+1 }:=I.turned (t':=s.toks+1) (fun b o hb e=>(sb.2 b hb).trans e) f0 f1 f3 f4 f5
   obtain ⟨o,e,c,d⟩:=id wm
   refine ⟨_,rfl,yx (s:={ s with heap:=h',toks:=s.toks+1 }) e c d ?_ ⟨.str ⟨#[x.cps[i]]⟩,H,I1,⟨_,rfl⟩,⟨rfl,_,hx,rfl⟩,wm,fun b hb=>(hf b hb).1⟩⟩
   rcases cP x with z | z <;> rw [z] <;> decide
  rcases cP x with z | z
  · rw [z] at st fin
    refine wpAny_pyNext_ascii_item st hx fun h' wm sb=>?_
    have:=fin h' wm sb
    rw [← z] at this
    simpa [z] using this
  · rw [z] at st fin
    refine wpAny_pyNext_wide_item st hx fun h' wm sb=>?_
    have:=fin h' wm sb
    simpa [z] using this
 done:=by
  intro X hP hw hK hc i pins s σ H E I hf st hg
  subst hP hw hK
  obtain ⟨f0,f1,f2,f3,f4,f5⟩:=hf it (by simp)
  have hi:x.cps.size≤i:=hg
  have hx:x.cps[i]?=none:=by simp [hi]
  rcases cP x with z | z
  · rw [z] at st
    exact wpAny_pyNext_ascii_end (I.ok.hd hc) st hx fun h' eb=>⟨rfl,I.turned (t':=s.toks) (fun b o hb e=>eb b o hb e) f0 f1 f3 f4 f5⟩
  · rw [z] at st
    exact wpAny_pyNext_wide_end (I.ok.hd hc) st hx fun h' eb=>⟨rfl,I.turned (t':=s.toks) (fun b o hb e=>eb b o hb e) f0 f1 f3 f4 f5⟩
 self:=fun A i s Q E st h=>by
  rcases cP x with z | z
  · rw [z] at st; exact wpAny_pyIter_striter_ascii st h
  · rw [z] at st; exact wpAny_pyIter_striter_wide st h
section
variable {X:Cx} {tg:Expr}
theorem dg (hc:X.calm=true):c_ X (.builtin "all") (fun xs H Q=>∃ (p:Addr) (bs:List Bool),xs=[.ref p]∧eJ X.K H p (bs.map V.bl)∧Q (.bl (bs.all id)) H):=by
 intro pins s σ H xs us Q I r h
 obtain ⟨p,bs,rfl,hq,q⟩:=h
 obtain ⟨u,rfl,rx⟩:=vals1 r
 cases rx
 obtain ⟨aP,rv,pl,hz⟩:=I.list hq
 refine call_all_walk (wpAny_pyIter_list pl.isList ?_)
 have fz:p < s.heap.objs.size:=by obtain ⟨o,n,e,_⟩:=pl; exact dG e
 have qb:p≠s.heap.objs.size:=gF fz
 have hh:X.A.in1.handled=none:=I.ok.hd hc
 refine ⟨s.heap.objs.size,_,_,_,_,_,fun i=>bs.getD i true,rfl,Walks.list hh s.heap.objs.size p qb aP.toArray,⟨⟨_,nE _ rfl,rfl,rfl⟩,pl.isList.push _⟩,?_,fun h' tk k=>?_⟩
 · intro i v s' Q' E' hP hQ
   have V7:aP[i]?=some v:=by simpa using hP
   have hb:i < bs.length:=by
    have:=rv.length
    have h2:=(fH.mp V7).1
    rw [bZ] at this
    omega
   obtain ⟨u,e1,r1⟩:=rv.get (i:=i) (x:=.bl bs[i]) (by simp [hb])
   rw [V7] at e1
   cases e1
   obtain rfl:v=Value.bool bs[i]:=r1
   have e3:bs.getD i true=bs[i]:=by simp [List.getD,hb]
   dsimp only at hQ; rw [e3] at hQ
   exact wpAny_truthy_bool hQ
 · have hl:aP.toArray.size=bs.length:=by have:=rv.length; rw [bZ] at this; rw [gD]; omega
   have e:(List.range aP.toArray.size).all (fun i=>bs.getD i true)=bs.all id:=by
    rw [hl,Ib,zx,zx]
    constructor
    · intro h x hx
      obtain ⟨i,hi,e⟩:=List.mem_iff_getElem.mp hx
      have:=h i (zy.mpr hi)
      simp only [List.getD,kg hi,Option.getD_some] at this
      rw [← e]; exact this
    · intro h i hi
      have BD:=zy.mp hi
      simp only [List.getD,kg BD,Option.getD_some]
      exact h _ (BI BD)
   rw [e]
   refine ⟨.bl (bs.all id),H,?_,rfl,q⟩
   have I0:Inv X pins σ H { s with heap:=s.heap.push { cls:=.type "list_iterator",data:=.fields #[.ref p,.int 0 0] } }:=I.kept (t':=s.toks) fun b o e=>de _ e
   have fk:=I.qf (H':=H) (dX s.heap.objs.size) I.fresh
   obtain ⟨f0,f1,_,f3,f4,f5⟩:=fk
   exact I0.turned (t':=tk) (fun b o hb e=>k b o (by simpa using hb) e) f0 f1 f3 f4 f5
theorem qj:BB X "str.startswith" (fun x xs H Q=>∃ z y,x = .str z∧xs=[.str y]∧Q (.bl (Txt.startswith z y)) H):=by
 intro pins s σ H x xs v us Q I rx rs h
 obtain ⟨z,y,rfl,rfl,q⟩:=h
 obtain ⟨t,rfl⟩:=rx
 obtain ⟨u,rfl,t',rfl⟩:=vals1 rs
 exact SC.startswith ⟨.bl _,H,I,rfl,q⟩
def Ou:V→Option Int→Option Int→Hp→VK→Prop:=fun x lo hi H Q=>∃ z,x = .str z∧z.length≤sizeLine∧Q (.str (Txt.slice z lo hi)) H
theorem KI:BA X Ou:=by
 intro pins s σ H x v vl vu lo hi sl Q I rx hs pl pu h
 obtain ⟨z,rfl,hz,q⟩:=h
 obtain ⟨t,rfl⟩:=rx
 obtain ⟨o,e,c,d⟩:=hs
 refine ⟨"str",_,slot_str_getitem.lookup,typeIs_str _ _ _,?_⟩
 cases pl with
 | none =>
   cases pu with
   | none=>exact wpAny_getItem_str_slice (l:=none) (u:=none) (st:=none) ⟨o,e,c,d⟩ rfl (post_val_or_str ⟨mD (Txt.slice_le z _ _) hz,fun t' k=>⟨.str _,H,I.tok _,⟨_,rfl⟩,q⟩⟩)
   | int j tj=>exact wpAny_getItem_str_slice (l:=none) (u:=some (j,tj)) (st:=none) ⟨o,e,c,d⟩ rfl (post_val_or_str ⟨mD (Txt.slice_le z _ _) hz,fun t' k=>⟨.str _,H,I.tok _,⟨_,rfl⟩,q⟩⟩)
 | int i ti =>
   cases pu with
   | none=>exact wpAny_getItem_str_slice (l:=some (i,ti)) (u:=none) (st:=none) ⟨o,e,c,d⟩ rfl (post_val_or_str ⟨mD (Txt.slice_le z _ _) hz,fun t' k=>⟨.str _,H,I.tok _,⟨_,rfl⟩,q⟩⟩)
   | int j tj=>exact wpAny_getItem_str_slice (l:=some (i,ti)) (u:=some (j,tj)) (st:=none) ⟨o,e,c,d⟩ rfl (post_val_or_str ⟨mD (Txt.slice_le z _ _) hz,fun t' k=>⟨.str _,H,I.tok _,⟨_,rfl⟩,q⟩⟩)
end
def Walk (J:It) (H1:Hp) (xs:List V):Prop:=∀ (i:Nat) H',aK H1 H'→(∀ x,xs[i]?=some x→J.go i H')∧(xs.length≤i→J.stop i H')∧(i < xs.length→∀ x Iq,J.M7 i H' x Iq→Iq=H'∧xs[i]?=some x)
theorem uC.map {J:It} {tt:TT} {te:TE} {σ:St} {D:Addr} {Q:Hp→Prop} {H1:Hp} {k:Nat} (xs:List V) (p:V→Bool) (f:V→V) (hk:k=σ.length) (hD:H1 D=none) (hz:xs.length≤sizeLine) (hJ:Walk J H1 xs)
  (ht:∀ (i:Nat) x H' R,xs[i]?=some x→aK H1 H'→(∀ Iq,aK H' Iq→R (p x) Iq)→tt (σ ++ [some x]) H' R)
  (he:∀ (i:Nat) x H' R,xs[i]?=some x→p x=true→aK H1 H'→(∀ Iq,aK H' Iq→R (f x) Iq)→te (σ ++ [some x]) H' R)
  (hq:∀ H',aK H1 H'→H' D=some (.lst ((xs.filter p).map f))→Q H'):uC J (ik k) tt te 1 σ D Q H1:=by
 subst hk
 refine ⟨fun i m acc H2=>i≤xs.length∧m=xs.length - i∧acc=((xs.take i).filter p).map f∧aK H1 H2∧H2 D=some (.lst acc),⟨xs.length,km _,rfl,by simp,fun b o e=>?_,aT⟩,?_⟩
 · rw [aE (aW e hD)]; exact e
 · rintro i m acc H2 ⟨hi,rfl,rfl,s2,FU⟩
   refine ⟨FU,?_⟩
   obtain ⟨j1,j2,j3⟩:=hJ i H2 s2
   by_cases fz:i < xs.length
   · refine .inr ⟨j1 xs[i] (by simp [fz]),?_,fun x H3 y=>?_⟩
     · have h1:(((xs.take i).filter p).map f).length≤i:=by
        rw [bZ]
        refine mD (List.length_filter_le _ _) ?_
        rw [MX]; omega
       omega
     · obtain ⟨e3,hx⟩:=j3 fz x H3 y
       subst e3
       have eσ:(σ ++ List.replicate 1 none).set σ.length (some x)=σ ++ [some x]:=by
        rw [List.set_append_right _ _ (dX _),Nat.sub_self]; rfl
       show (((σ ++ List.replicate 1 none).set σ.length (some x)).length=σ.length+1∧_)∧_
       rw [eσ]
       refine ⟨⟨by simp,fun i v h=>?_⟩,?_⟩
       · have BD:=(fH.mp h).1
         rw [uh BD]; exact h
       refine ht i x H3 _ hx s2 fun H5 s5=>?_
       have V8:(xs.take (i+1)).filter p=(xs.take i).filter p ++ (if p x then [x] else []):=take_succ_filter p xs i x hx
       cases hp:p x with
       | false =>
         rw [if_neg qa]
         refine ⟨xs.length - (i+1),by omega,fz,rfl,?_,s2.trans s5,s5 _ _ FU⟩
         rw [V8,hp]; simp
       | true =>
         rw [if_pos rfl]
         refine he i x H5 _ hx hp (s2.trans s5) fun H6 s6=>?_
         refine ⟨s6 _ _ (s5 _ _ FU),xs.length - (i+1),by omega,fz,rfl,?_,fun b o e=>?_,aT⟩
         · rw [V8,hp]; simp
         · rw [aE (aW e hD)]; exact s6 _ _ (s5 _ _ (s2 _ _ e))
   · have e:i=xs.length:=by omega
     subst e
     refine .inl ⟨j2 (dX _),hq H2 s2 ?_⟩
     rw [FU,Q6]
theorem aM {H:Hp} {D:Addr} {o:HO} (h:H D=none):aK H (upd H D o):=fun b u e=>by rw [aE (aW e h)]; exact e
section
variable {X:Cx} {pins:List (Addr×Obj)} {σ:St} {H H':Hp} {s:Shared} {h':Heap}
theorem Inv.grown {t':Nat} {ch:List Addr} {t:Addr} {o:HO} (I:Inv X pins σ H s) (k:∀ b u,b∉ch→s.heap.get? b=some u→h'.get? b=some u) (hf:∀ b∈ch,lF X pins H b) (ht:s.heap.objs.size≤t)
  (new:bP X.prog X.w (upd H t o) h' t o):Inv X pins σ (upd H t o) { s with heap:=h',toks:=t' }:=by
 have hn:H t=none:=I.bC.fresh ht
 have BM:∀ b u,H b=some u→b∉ch:=fun b u e z=>by rw [(hf b z).1] at e; cases e
 refine I.step (g':=s.gens) (d':=s.drawn) (ch:=ch) (fun b hb=>?_) (fun b u _ _ hc e _=>k b u hc e) (fun b u _ _ hc e _=>⟨u.slots,k b u hc e⟩) (fun b u _ e n=>?_) (fun b u hc e=>⟨u,k b u hc e⟩)
  (fun b xs e=>?_) (fun b u v e=>?_) (fun b ps e=>⟨#[],?_⟩) (fun m hm=>?_) (fun b u e=>?_) I.bare
 · obtain ⟨_,f1,_,f3,f4,f5⟩:=hf b hb
   exact ⟨f3,f1,f4,f5⟩
 · rw [aE (gF (nF (dG e) ht))]; exact n
 · rw [aE (aW e hn)]; exact e
 · rw [aE (aW e hn)]; exact e
 · rw [aE (aW e hn),e]; simp
 · obtain ⟨ob,es,ep,ho,r⟩:=hm
   exact ⟨ob,es,ep,k _ ob (fun z=>(hf _ z).2.1 rfl) ho,r⟩
 · by_cases hb:b=t
   · subst hb; rw [aT] at e; cases e; exact new
   · rw [aE hb] at e
     refine (I.bC b u e).mZ (fun c v hc q=>k c v ?_ q) (fun c q=>by rw [aE (aW q hn)]; exact q) fun c xs q=>by rw [aE (aW q hn)]; exact q
     rcases hc with z | z
     · rw [z]; exact BM b u e
     · exact BM c _ z
end
def S7 (K:PySem.W.Frag) (a:Addr):It :=
 ⟨fun i H=>∃ xs x,eJ K H a xs∧xs[i]?=some x,fun i H v H'=>∃ t x,H t=none∧v = .ref t∧(∀ xs,eJ K H a xs→xs[i]?=some x)∧H'=upd H t (.tup [.int (i:Int),x]),fun i H=>∃ xs,eJ K H a xs∧xs.length≤i⟩
theorem zQ {P:Program} {w:World} {K:PySem.W.Frag} {elts:List Expr} {x1} {tp:Pos} (a e it:Addr) (qb:e≠it) :
  Turn P w K (.Tuple elts x1 tp) (S7 K a) [e,it] e (fun i h=>(∃ old,IsEnum h e it (i:Int) old)∧h.IsListIter it a i) where
 mem:=by simp
 obj:=fun i h st b hb=>by
  obtain ⟨⟨old,h1⟩,o,h2,c,d⟩:=st
  rcases dD.mp hb with z | z
  · subst z
    exact ⟨_,h1,fun v z=>by cases z⟩
  · have z':b=it:=by simpa using z
    subst z'
    exact ⟨o,h2,fun v z=>by rw [d] at z; cases z⟩
 keep:=fun i h h' st k=>by
  obtain ⟨⟨old,h1⟩,Bw⟩:=st
  exact ⟨⟨old,k e (by simp) _ h1⟩,Bw.at fun o q=>k it (by simp) o q⟩
 item:=by
  intro X hP hw hK hc i pins s σ H E I hf st hg
  subst hP hw hK
  obtain ⟨xs,x,hq,hx⟩:=hg
  obtain ⟨aP,rv,p,hz⟩:=I.list hq
  obtain ⟨u,hu,ru⟩:=rv.get hx
  obtain ⟨⟨old,h1⟩,Bw⟩:=st
  refine wpAny_pyNext_enum_item h1 Bw p.isList (x:=u) (by simpa using hu) qb fun h₁ Ij S8 Xg Cb Xh=>?_
  refine ⟨_,rfl,wpAny_letOwnedTupleGo_enum Ij fun h₂ Xi qk=>?_⟩
  have ql:Heap.SameBut e h₁ h₂:=qk
  have fz:e < s.heap.objs.size:=dG h1
  have S9:s.heap.objs.size≠e:=Bu fz
  have kk:∀ b ob,b∉[e,it]→s.heap.get? b=some ob→h₂.get? b=some ob:=fun b ob hb q=>by
   have EN:b≠e:=fun z=>hb (by simp [z])
   have S_:b≠it:=fun z=>hb (by simp [z])
   exact (ql.2 b EN).trans (Xh b ob EN S_ q)
  have new:bP X.prog X.w (upd H s.heap.objs.size (.tup [.int (i:Int),x])) h₂ s.heap.objs.size (.tup [.int (i:Int),x]) :=
   ⟨by show 2≤sizeLine; rw [sizeLine_eq]; decide,[.int i s.toks,u],.cons ⟨_,rfl⟩ (.cons ru .nil),⟨_,(ql.2 _ S9).trans Xg,rfl,_,rfl⟩⟩
  refine ⟨.ref s.heap.objs.size,upd H s.heap.objs.size (.tup [.int (i:Int),x]),I.grown (t':=s.toks+1) kk hf (dX _) new,rfl,⟨_,x,I.fresh,rfl,fun ys hy=>by rw [I.kq hy hq]; exact hx,rfl⟩,⟨⟨u,?_⟩,?_⟩,fun b hb=>?_⟩
  · have:((i:Int)+1)=((i+1:Nat):Int):=by omega
    rw [← this]; exact Xi
  · obtain ⟨o,q,r⟩:=S8
    exact ⟨o,(ql.2 it (Ne.symm qb)).trans q,r⟩
  · have S':b < s.heap.objs.size:=by
     rcases dD.mp hb with z | z
     · subst z; exact fz
     · have z':b=it:=by simpa using z
       subst z'
       obtain ⟨o,q,_⟩:=Bw
       exact dG q
    rw [aE (gF S')]
    exact (hf b hb).1
 done:=by
  intro X hP hw hK hc i pins s σ H E I hf st hg
  subst hP hw hK
  obtain ⟨xs,hq,hx⟩:=hg
  obtain ⟨aP,rv,p,hz⟩:=I.list hq
  have hl:=rv.length
  obtain ⟨⟨old,h1⟩,Bw⟩:=st
  obtain ⟨f0,f1,f2,f3,f4,f5⟩:=hf it (by simp)
  exact wpAny_pyNext_enum_end (I.ok.hd hc) h1 Bw p.isList (by simp; omega) fun h' eb=>⟨rfl,I.turned (t':=s.toks) (fun b o hb q=>eb b o hb q) f0 f1 f3 f4 f5⟩
 self:=fun _ _ _ _ _ st h=>by
  obtain ⟨⟨old,h1⟩,_⟩:=st
  exact wpAny_pyIter_enum h1 h
def Ov (K:PySem.W.Frag) (ta:TA):TI:=fun σ H R=>ta σ H fun vs H1=>∃ a,vs=[.ref a]∧(∃ xs,eJ K H1 a xs)∧R (S7 K a) H1
section
variable {X:Cx}
theorem boot_enumerate:bootBuiltins "enumerate" = some (.type "enumerate"):=by decide +kernel
theorem FV {elts:List Expr} {x1} {tp:Pos} {a:Expr} {ta:TA} {p pos:Pos} (hg:Gl X "enumerate") (hm:X.mg "enumerate" = none) (ha:PA X [a] ta) (hs:starEach [a] X.env=[(false,eval a X.env)]:=by rfl) :
  PI X (.Tuple elts x1 tp) (.Call (.Name "enumerate" p) [a] [] pos) (Ov X.K ta):=by
 intro pins s σ H R I h
 refine Call_ (jR I hg hm boot_enumerate (QO (bX (ha pos pins s σ H _ I h) fun us s1 ⟨vs,H1,I1,r1,q1⟩=>?_) hs rfl))
 obtain ⟨b,e,⟨xs,hq⟩,q⟩:=q1
 subst e
 obtain ⟨u,rfl,ru⟩:=vals1 r1
 cases ru
 obtain ⟨aP,rv,pl,hz⟩:=I1.list hq
 refine call_enumerate_list pl.isList fun h' he hit q9 hk=>?_
 have I2:Inv X pins σ H1 { s1 with heap:=h' }:=I1.kept (t':=s1.toks) hk
 refine wpAny_pyIter_enum he ?_
 refine ⟨s1.heap.objs.size+1,[s1.heap.objs.size+1,s1.heap.objs.size],_,_,H1,rfl,I2,zQ b _ _ (Bu (Jy _)),⟨⟨_,he⟩,hit⟩,fun c hc=>?_,q⟩
 rcases dD.mp hc with z | z
 · subst z; exact I1.qf (JD _) (I1.bC.fresh (JD _))
 · have z':c=s1.heap.objs.size:=by simpa using z
   subst z'; exact I1.qf (dX _) I1.fresh
end
section
variable {X:Cx}
theorem qm (hc:X.calm=true):c_ X (.builtin "sum") (fun xs H Q=>∃ (p:Addr) (ns:List Int),xs=[.ref p]∧eJ X.K H p (ns.map V.int)∧Q (.int ns.sum) H):=by
 intro pins s σ H xs us Q I r h
 obtain ⟨p,ns,rfl,hq,q⟩:=h
 obtain ⟨u,rfl,rx⟩:=vals1 r
 cases rx
 obtain ⟨aP,rv,pl,hz⟩:=I.list hq
 have hI:IntsAre aP ns:=intsAre_of rv
 obtain ⟨xs,e⟩:=hI.allInts.items
 have hn:=hI.numsOf
 have hl:s.heap.IsList p (intItems xs):=by rw [← e]; exact pl.isList
 refine sum_intListG (I.ok.hd hc) hl fun h' tk t' hk=>?_
 have e2:preSum (numAt xs) xs.size=ns.sum:=by
  rw [preSum_eq,List.take_of_length_le (by simp),← nums_intItems,← e,List.toList_toArray,hn]
 rw [e2]
 exact ⟨.int ns.sum,H,I.kept hk,⟨_,rfl⟩,q⟩
end
end L2
namespace wH
open PySem Builtin Builtin.Str
def bx:Str:="abcdefghijklmnopqrstuvwxyz"
def ET (c:Nat):Bool:=!(occurrences bx ⟨#[c]⟩ 0 bx.length 1).isEmpty
theorem wI:(("." : String):Str)=⟨#[46]⟩:=by decide +kernel
def bV (x:Str):Bool:=decide (1≤(x.length:Int)) && (decide ((x.length:Int)≤8) && x.cps.toList.all ET)
def su (x:Str):Bool:=Txt.startswith x "." && bV (Txt.slice x (some 1) none)
theorem sx {x:Str} (h:bV x=true):x.cps.toList.all ET=true:=by
 unfold bV at h
 rw [iE,iE] at h
 exact h.2.2
theorem wJ (x:Str):Txt.startswith (("." : String) ++ x) "." = true:=by
 obtain ⟨⟨l⟩⟩:=x
 rw [wI]
 unfold Txt.startswith subAt
 rw [iE]
 refine ⟨?_,?_⟩
 · apply decide_eq_true
   show 0+1≤(#[46] ++ ({ toList:=l }:Array Nat)).size
   simp
 · show (Array.extract (#[46] ++ ({ toList:=l }:Array Nat)) 0 (0+1) == #[46])=true
   rw [beq_iff_eq]
   apply Array.ext'
   simp
theorem zR (x:Str):Txt.slice (("." : String) ++ x) (some 1) none=x:=by
 obtain ⟨⟨l⟩⟩:=x
 rw [wI]
 have hl:(Str.length (Str.mk #[46] ++ Str.mk { toList:=l }))=l.length+1:=by
  show (#[46] ++ ({ toList:=l }:Array Nat)).size=_
  simp
 have hi:strSliceIndices (some 1) none 1 (l.length+1)=(List.range l.length).map (fun k=>k+1):=by
  unfold strSliceIndices sliceRange
  simp only [show (1:Int) > 0 by decide,if_true]
  have e0:max 0 (min (if (1:Int) < 0 then 1+((l.length+1:Nat):Int) else 1) ((l.length+1:Nat):Int))=1:=by
   rw [if_neg (by decide)]; omega
  rw [e0]
  by_cases hn:l.length=0
  · rw [hn]; rfl
  · have e1:((1:Int) < ((l.length+1:Nat):Int)):=by omega
    rw [if_pos e1]
    have e2:((((l.length+1:Nat):Int) - 1+1 - 1) / 1).toNat=l.length:=by
     rw [Int.ediv_one]; omega
    rw [e2]
    apply List.map_congr_left
    intro k hk
    omega
 unfold Txt.slice
 rw [hl,hi]
 have qb:¬ (((1:Int) == 1 && (List.map (fun k=>k+1) (List.range l.length)).length == l.length+1)=true):=by
  rw [iE,bZ,EJ]
  intro q
  have:=beq_iff_eq.mp q.2
  omega
 rw [if_neg qb]
 congr 1
 apply Array.ext'
 rw [List.toList_toArray]
 show List.filterMap (fun i=>(#[46] ++ ({ toList:=l }:Array Nat))[i]?) (List.map (fun k=>k+1) (List.range l.length))=l
 rw [List.filterMap_map]
 have e:∀ k,((fun i=>(#[46] ++ ({ toList:=l }:Array Nat))[i]?) ∘ fun k=>k+1) k=l[k]?:=fun k=>by
  show (#[46] ++ ({ toList:=l }:Array Nat))[k+1]?=l[k]?
  rw [← Array.getElem?_toList]
  simp
 rw [show ((fun i=>(#[46] ++ ({ toList:=l }:Array Nat))[i]?) ∘ fun k=>k+1)=fun k=>l[k]? from funext e]
 clear e qb hi hl
 induction l with
 | nil=>rfl
 | cons a r ih =>
   rw [Jz,List.range_succ_eq_map,nD]
   simp only [QQ,List.filterMap_map]
   congr 1
theorem zS {x:Str} (h:bV x=true):su (("." : String) ++ x)=true:=by
 unfold su
 rw [wJ,zR,h]
 rfl
theorem FW (x:Str):((("." : String):Str) ++ x).length=x.length+1:=by
 rw [wI]
 show (#[46] ++ x.cps).size=_
 simp [Str.length]
 omega
end wH
namespace VT
open PySem PySem.Spec PyProof.Rows L2
abbrev St:=L2.St
inductive T where
 | bu | bl (b:Bool) | int (i:Int) | str (x:Str) | tup (l:List T) | lst (l:List T) | dk (ks:List Key) (vs:List T) | dt (ks:List (List Key)) (vs:List T) | df (o:Obj) (ks:List (List Key)) (vs:List T) | dz (o:Obj) (ks:List Key) (vs:List T) | kt (k:List Key) | ins (C:Addr) (ns:List Str) (vs:List T) | pin (a:Addr) (t:T) | ob (a:Addr) | ty (n:String)
def qo (K:PySem.W.Frag) (H:Hp) (O:List Addr) (a:Addr) (vs:List V):Prop :=
 (Rd H a (.lst vs)∧a∉O)∨∃ (o:Obj) (aP:Array Value) (n:Nat),K.lookup a=some o∧o.cls = .type "list"∧o.dict=none∧o.data = .seq aP n∧aP.size≤sizeLine∧Vals vs aP.toList
theorem qo.sq {K:PySem.W.Frag} {H:Hp} {O:List Addr} {a:Addr} {vs:List V} (h:qo K H O a vs):eJ K H a vs:=by
 rcases h with h | h
 · exact .inl h.1
 · exact .inr h
def qp (H:Hp) (O:List Addr) (a:Addr) (u:HO):Prop:=H a=some u∧a∉O
mutual
def At (K:PySem.W.Frag) (H:Hp) (O:List Addr):T→V→Prop
 | .bu,v=>v = .bu
 | .bl b,v=>v = .bl b
 | .int i,v=>v = .int i
 | .str x,v=>v = .str x
 | .ob a,v=>v = .ref a
 | .ty n,v=>v = .ty n
 | .tup ts,v=>∃ a vs,v = .ref a∧dF K H a vs∧aG K H O ts vs
 | .lst ts,v=>∃ a vs,v = .ref a∧qo K H O a vs∧aG K H O ts vs
 | .dk ks ts,v=>∃ a vs,v = .ref a∧ks.length=vs.length∧qp H O a (.dK (ks.zip vs))∧aG K H O ts vs
 | .dt ks ts,v=>∃ a vs,v = .ref a∧ks.length=vs.length∧qp H O a (.dT (ks.zip vs))∧aG K H O ts vs
 | .df o ks ts,v=>∃ a vs,v = .ref a∧ks.length=vs.length∧qp H O a (.ue o (.dT (ks.zip vs)))∧aG K H O ts vs
 | .dz o ks ts,v=>∃ a vs,v = .ref a∧ks.length=vs.length∧qp H O a (.ue o (.dK (ks.zip vs)))∧aG K H O ts vs
 | .kt k,v=>∃ a,v = .ref a∧qp H O a (.tup (k.map kV))
 | .pin a t,v=>v = .ref a∧At K H O t v
 | .ins C ns ts,v=>∃ a dx vs,v = .ref a∧ns.length=vs.length∧qp H O a (.ins C dx (ns.zip vs))∧aG K H O ts vs
def aG (K:PySem.W.Frag) (H:Hp) (O:List Addr):List T→List V→Prop
 | [],vs=>vs=[]
 | t :: ts,vs=>∃ v r,vs=v :: r∧At K H O t v∧aG K H O ts r
end
section
variable {K:PySem.W.Frag} {H H':Hp} {O O':List Addr}
mutual
theorem At.map (hl:∀ a vs,qo K H O a vs→qo K H' O' a vs) (ht:∀ a vs,dF K H a vs→dF K H' a vs) (hd:∀ a u,qp H O a u→qp H' O' a u):∀ {t:T} {v:V},At K H O t v→At K H' O' t v
 | .bu,_,h=>by simpa only [At] using h
 | .bl _,_,h=>by simpa only [At] using h
 | .int _,_,h=>by simpa only [At] using h
 | .str _,_,h=>by simpa only [At] using h
 | .ob _,_,h=>by simpa only [At] using h
 | .ty _,_,h=>by simpa only [At] using h
 | .tup ts,_,h=>by
   simp only [At] at h ⊢
   obtain ⟨a,vs,e,h1,h2⟩:=h
   exact ⟨a,vs,e,ht a vs h1,aG.map hl ht hd h2⟩
 | .lst ts,_,h=>by
   simp only [At] at h ⊢
   obtain ⟨a,vs,e,h1,h2⟩:=h
   exact ⟨a,vs,e,hl a vs h1,aG.map hl ht hd h2⟩
 | .dk ks ts,_,h=>by
   simp only [At] at h ⊢
   obtain ⟨a,vs,e,h0,h1,h2⟩:=h
   exact ⟨a,vs,e,h0,hd _ _ h1,aG.map hl ht hd h2⟩
 | .dt ks ts,_,h=>by
   simp only [At] at h ⊢
   obtain ⟨a,vs,e,h0,h1,h2⟩:=h
   exact ⟨a,vs,e,h0,hd _ _ h1,aG.map hl ht hd h2⟩
 | .df o ks ts,_,h=>by
   simp only [At] at h ⊢
   obtain ⟨a,vs,e,h0,h1,h2⟩:=h
   exact ⟨a,vs,e,h0,hd _ _ h1,aG.map hl ht hd h2⟩
 | .dz o ks ts,_,h=>by
   simp only [At] at h ⊢
   obtain ⟨a,vs,e,h0,h1,h2⟩:=h
   exact ⟨a,vs,e,h0,hd _ _ h1,aG.map hl ht hd h2⟩
 | .kt k,_,h=>by
   simp only [At] at h ⊢
   obtain ⟨a,e,h1⟩:=h
   exact ⟨a,e,hd _ _ h1⟩
 | .pin a t,_,h=>by
   simp only [At] at h ⊢
   exact ⟨h.1,At.map hl ht hd h.2⟩
 | .ins C ns ts,_,h=>by
   simp only [At] at h ⊢
   obtain ⟨a,dx,vs,e,h0,h1,h2⟩:=h
   exact ⟨a,dx,vs,e,h0,hd _ _ h1,aG.map hl ht hd h2⟩
theorem aG.map (hl:∀ a vs,qo K H O a vs→qo K H' O' a vs) (ht:∀ a vs,dF K H a vs→dF K H' a vs) (hd:∀ a u,qp H O a u→qp H' O' a u):∀ {ts:List T} {vs:List V},aG K H O ts vs→aG K H' O' ts vs
 | [],_,h=>by simpa only [aG] using h
 | t :: ts,_,h=>by
   simp only [aG] at h ⊢
   obtain ⟨v,r,e,h1,h2⟩:=h
   exact ⟨v,r,e,At.map hl ht hd h1,aG.map hl ht hd h2⟩
end
theorem Rd.same {a:Addr} {u:HO} (s:aK H H') (h:Rd H a u):Rd H' a u:=by
 rcases h with h | ⟨o,h⟩
 · exact .inl (s _ _ h)
 · exact .inr ⟨o,s _ _ h⟩
theorem dF.same {a:Addr} {vs:List V} (s:aK H H') (h:dF K H a vs):dF K H' a vs:=by
 rcases h with h | h
 · exact .inl (Rd.same s h)
 · exact .inr h
theorem qo.same {a:Addr} {vs:List V} (s:aK H H') (h:qo K H O a vs):qo K H' O a vs:=by
 rcases h with h | h
 · exact .inl ⟨Rd.same s h.1,h.2⟩
 · exact .inr h
theorem At.same {t:T} {v:V} (s:aK H H') (h:At K H O t v):At K H' O t v:=At.map (fun _ _ q=>q.same s) (fun _ _ q=>dF.same s q) (fun _ _ q=>⟨s _ _ q.1,q.2⟩) h
theorem aG.same {t:List T} {v:List V} (s:aK H H') (h:aG K H O t v):aG K H' O t v:=aG.map (fun _ _ q=>q.same s) (fun _ _ q=>dF.same s q) (fun _ _ q=>⟨s _ _ q.1,q.2⟩) h
theorem At.bq {t:T} {v:V} (s:∀ a∈O',a∈O) (h:At K H O t v):At K H O' t v :=
 At.map (fun a vs q=>q.elim (fun z=>.inl ⟨z.1,fun m=>z.2 (s a m)⟩) .inr) (fun _ _ q=>q) (fun a _ q=>⟨q.1,fun m=>q.2 (s a m)⟩) h
theorem aG.bq {t:List T} {v:List V} (s:∀ a∈O',a∈O) (h:aG K H O t v):aG K H O' t v :=
 aG.map (fun a vs q=>q.elim (fun z=>.inl ⟨z.1,fun m=>z.2 (s a m)⟩) .inr) (fun _ _ q=>q) (fun a _ q=>⟨q.1,fun m=>q.2 (s a m)⟩) h
theorem Rd.some {a:Addr} {u:HO} (h:Rd H a u):H a≠none:=by
 rcases h with h | ⟨o,h⟩ <;> rw [h] <;> simp
theorem At.more {t:T} {v:V} (s:∀ a∈O',a∈O∨H a=none) (h:At K H O t v):At K H O' t v :=
 At.map (fun a vs q=>q.elim (fun z=>.inl ⟨z.1,fun m=>(s a m).elim z.2 (Rd.some z.1)⟩) .inr) (fun _ _ q=>q) (fun a aZ q=>⟨q.1,fun m=>(s a m).elim q.2 (by rw [q.1]; simp)⟩) h
theorem aG.more {t:List T} {v:List V} (s:∀ a∈O',a∈O∨H a=none) (h:aG K H O t v):aG K H O' t v :=
 aG.map (fun a vs q=>q.elim (fun z=>.inl ⟨z.1,fun m=>(s a m).elim z.2 (Rd.some z.1)⟩) .inr) (fun _ _ q=>q) (fun a aZ q=>⟨q.1,fun m=>(s a m).elim q.2 (by rw [q.1]; simp)⟩) h
def uG:HO→Bool
 | .lst _=>true
 | .dK _=>true
 | .dT _=>true
 | .ins _ _ _=>true
 | _=>false
theorem At.wrote {t:T} {v:V} {a:Addr} {o u:HO} (ha:a∈O) (hu:H a=some u) (hm:uG u=true) (h:At K H O t v):At K (upd H a o) O t v:=by
 have ne:∀ b,b∉O→b≠a:=fun b hb e=>hb (by rw [e]; exact ha)
 refine At.map (fun b vs q=>?_) (fun b vs q=>?_) (fun b aZ q=>?_) h
 · rcases q with q | q
   · refine .inl ⟨?_,q.2⟩
     rcases q.1 with z | ⟨o',z⟩
     · exact .inl (by rw [aE (ne b q.2)]; exact z)
     · exact .inr ⟨o',by rw [aE (ne b q.2)]; exact z⟩
   · exact .inr q
 · rcases q with z | z
   · refine .inl ?_
     rcases z with z | ⟨o',z⟩
     · exact .inl (by rw [aE (Ii z hu (by intro e; subst e; cases hm))]; exact z)
     · exact .inr ⟨o',by rw [aE (Ii z hu (by intro e; subst e; cases hm))]; exact z⟩
   · exact .inr z
 · exact ⟨by rw [aE (ne b q.2)]; exact q.1,q.2⟩
theorem aG.iff {ts:List T}:∀ {vs:List V},aG K H O ts vs↔Paired (fun v t=>At K H O t v) vs ts:=by
 induction ts with
 | nil=>intro vs; simp only [aG]; exact ⟨fun e=>by subst e; exact .nil,fun h=>by cases h; rfl⟩
 | cons t ts ih =>
   intro vs
   simp only [aG]
   constructor
   · rintro ⟨v,r,rfl,h1,h2⟩
     exact .cons h1 (ih.mp h2)
   · intro h
     cases h with
     | cons h1 h2=>exact ⟨_,_,rfl,h1,ih.mpr h2⟩
theorem aG.wrote {t:List T} {v:List V} {a:Addr} {o u:HO} (ha:a∈O) (hu:H a=some u) (hm:uG u=true) (h:aG K H O t v):aG K (upd H a o) O t v :=
 aG.iff.mpr (Paired.mY (aG.iff.mp h) fun _ _ q=>q.wrote ha hu hm)
theorem aG.length {ts:List T} {vs:List V} (h:aG K H O ts vs):vs.length=ts.length:=Paired.length (aG.iff.mp h)
theorem aG.get {ts:List T} {vs:List V} (h:aG K H O ts vs) {i:Nat} {t:T} (e:ts[i]?=some t):∃ v,vs[i]?=some v∧At K H O t v:=by
 have q:=aG.iff.mp h
 clear h
 induction q generalizing i with
 | nil=>simp at e
 | cons r _ ih =>
   cases i with
   | zero=>simp at e; subst e; exact ⟨_,rfl,r⟩
   | succ i=>obtain ⟨v,h1,h2⟩:=ih (i:=i) (by simpa using e); exact ⟨v,by simpa using h1,h2⟩
theorem aG.cons {t:T} {ts:List T} {v:V} {vs:List V} (h:At K H O t v) (hs:aG K H O ts vs):aG K H O (t :: ts) (v :: vs):=by
 simp only [aG]; exact ⟨v,vs,rfl,h,hs⟩
theorem aG.nil:aG K H O [] []:=by simp only [aG]
theorem aG.append {ts us:List T} {vs ws:List V} (h:aG K H O ts vs) (h':aG K H O us ws):aG K H O (ts ++ us) (vs ++ ws):=by
 rw [aG.iff] at h h' ⊢
 induction h with
 | nil=>exact h'
 | cons r _ ih=>exact .cons r ih
theorem aG.drop {ts:List T} {vs:List V} (n:Nat) (h:aG K H O ts vs):aG K H O (ts.drop n) (vs.drop n):=by
 rw [aG.iff] at h ⊢
 induction h generalizing n with
 | nil=>cases n <;> exact .nil
 | cons r t ih=>cases n with
   | zero=>exact .cons r t
   | succ n=>exact ih n
theorem aG.take {ts:List T} {vs:List V} (n:Nat) (h:aG K H O ts vs):aG K H O (ts.take n) (vs.take n):=by
 rw [aG.iff] at h ⊢
 induction h generalizing n with
 | nil=>cases n <;> exact .nil
 | cons r t ih=>cases n with
   | zero=>exact .nil
   | succ n=>exact .cons r (ih n)
theorem aG.set {ts:List T} {vs:List V} {t:T} {v:V} (i:Nat) (h:aG K H O ts vs) (q:At K H O t v):aG K H O (ts.set i t) (vs.set i v):=by
 rw [aG.iff] at h ⊢
 induction h generalizing i with
 | nil=>exact .nil
 | cons r s ih=>cases i with
   | zero=>exact .cons q s
   | succ i=>exact .cons r (ih i)
end
mutual
def qq:T→Bool
 | .tup ts=>Cc ts
 | .lst _=>false
 | .dk _ _=>false
 | .dt _ _=>false
 | .df _ _ _=>false
 | .dz _ _ _=>false
 | .kt _=>false
 | .ins _ _ _=>false
 | .pin _ _=>false
 | _=>true
def Cc:List T→Bool
 | []=>true
 | t :: ts=>qq t && Cc ts
end
section
variable {K:PySem.W.Frag} {H H':Hp} {O O':List Addr}
mutual
theorem At.qq:∀ {t:T} {v:V},qq t=true→At K H O t v→At K H O' t v
 | .bu,_,_,h=>by simpa only [At] using h
 | .bl _,_,_,h=>by simpa only [At] using h
 | .int _,_,_,h=>by simpa only [At] using h
 | .str _,_,_,h=>by simpa only [At] using h
 | .ob _,_,_,h=>by simpa only [At] using h
 | .ty _,_,_,h=>by simpa only [At] using h
 | .tup ts,_,i,h=>by
   simp only [At] at h ⊢
   simp only [VT.qq] at i
   obtain ⟨a,vs,e,h1,h2⟩:=h
   exact ⟨a,vs,e,h1,aG.qq i h2⟩
 | .lst ts,_,i,h=>by simp only [VT.qq] at i; cases i
 | .dk _ _,_,i,h=>by simp only [VT.qq] at i; cases i
 | .dt _ _,_,i,h=>by simp only [VT.qq] at i; cases i
 | .df _ _ _,_,i,h=>by simp only [VT.qq] at i; cases i
 | .dz _ _ _,_,i,h=>by simp only [VT.qq] at i; cases i
 | .kt _,_,i,h=>by simp only [VT.qq] at i; cases i
 | .ins _ _ _,_,i,h=>by simp only [VT.qq] at i; cases i
 | .pin _ _,_,i,h=>by simp only [VT.qq] at i; cases i
theorem aG.qq:∀ {ts:List T} {vs:List V},Cc ts=true→aG K H O ts vs→aG K H O' ts vs
 | [],_,_,h=>by simpa only [aG] using h
 | t :: ts,_,i,h=>by
   simp only [VT.Cc,iE] at i
   simp only [aG] at h ⊢
   obtain ⟨v,r,e,h1,h2⟩:=h
   exact ⟨v,r,e,At.qq i.1 h1,aG.qq i.2 h2⟩
end
end
abbrev En:=List (Option (T×Bool))
structure Zc where
 H0:Hp
 P:List (Nat×Addr)
 Ox:List Addr
def Zc.ex (Z:Zc) (a:Addr):Zc:={ Z with Ox:=a :: Z.Ox }
def cz (K:PySem.W.Frag) (H:Hp) (A:List Addr) (a:Addr):T→Prop
 | .lst ts=>∃ vs,H a=some (.lst vs)∧aG K H A ts vs
 | .dk ks ts=>∃ vs,ks.length=vs.length∧H a=some (.dK (ks.zip vs))∧aG K H A ts vs
 | .dt ks ts=>∃ vs,ks.length=vs.length∧H a=some (.dT (ks.zip vs))∧aG K H A ts vs
 | .ins C ns ts=>∃ dx vs,ns.length=vs.length∧H a=some (.ins C dx (ns.zip vs))∧aG K H A ts vs
 | _=>False
def oa (K:PySem.W.Frag) (H:Hp) (A:List Addr):Option (T×Bool)→Option Addr→Option V→Prop
 | none,o,_=>o=none
 | some (t,false),o,s=>o=none∧∃ v,s=some v∧At K H A t v
 | some (t,true),o,s=>∃ a,o=some a∧s=some (.ref a)∧cz K H A a t
def roots (O:List (Option Addr)):List Addr:=O.filterMap id
def av (Z:Zc) (O:List (Option Addr)):List Addr:=roots O ++ Z.Ox
structure ax (K:PySem.W.Frag) (Z:Zc) (tm:List (T×V)) (O:List (Option Addr)) (ρ:En) (σ:St) (H:Hp):Prop where
 lσ:σ.length=ρ.length
 lO:O.length=ρ.length
 sl:∀ (i:Nat) e,ρ[i]?=some e→∃ o s,O[i]?=some o∧σ[i]?=some s∧oa K H (av Z O) e o s
 nd:(roots O).Nodup
 own:∀ a∈roots O,(a∈Z.P.map (·.2)∨Z.H0 a=none)∧a∉Z.Ox∧∃ u,H a=some u∧uG u=true
 par:∀ p∈Z.P,O[p.1]?=some (some p.2)
 ox:∀ a∈Z.Ox,H a≠none
 keep:∀ b o,Z.H0 b=some o→b∉Z.P.map (·.2)→H b=some o
 nL:∀ p∈tm,At K H (av Z O) p.1 p.2
section
variable {K:PySem.W.Frag} {Z:Zc} {tm:List (T×V)} {O:List (Option Addr)} {ρ:En} {σ:St} {H H':Hp}
theorem cz.map {A A':List Addr} {a:Addr} {t:T} (h:cz K H A a t) (h1:H' a=H a) (h2:∀ ts vs,aG K H A ts vs→aG K H' A' ts vs):cz K H' A' a t:=by
 cases t with
 | lst ts=>obtain ⟨vs,e,q⟩:=h; exact ⟨vs,h1.trans e,h2 _ _ q⟩
 | dk ks ts=>obtain ⟨vs,l,e,q⟩:=h; exact ⟨vs,l,h1.trans e,h2 _ _ q⟩
 | dt ks ts=>obtain ⟨vs,l,e,q⟩:=h; exact ⟨vs,l,h1.trans e,h2 _ _ q⟩
 | ins C ns ts=>obtain ⟨dx,vs,l,e,q⟩:=h; exact ⟨dx,vs,l,h1.trans e,h2 _ _ q⟩
 | _=>exact h.elim
theorem cz.mut {A:List Addr} {a:Addr} {t:T} (h:cz K H A a t):∃ u,H a=some u∧uG u=true:=by
 cases t with
 | lst ts=>obtain ⟨vs,e,q⟩:=h; exact ⟨_,e,rfl⟩
 | dk ks ts=>obtain ⟨vs,l,e,q⟩:=h; exact ⟨_,e,rfl⟩
 | dt ks ts=>obtain ⟨vs,l,e,q⟩:=h; exact ⟨_,e,rfl⟩
 | ins C ns ts=>obtain ⟨dx,vs,l,e,q⟩:=h; exact ⟨_,e,rfl⟩
 | _=>exact h.elim
theorem cz.bq {A A':List Addr} {a:Addr} {t:T} (h:cz K H A a t) (s:∀ b∈A',b∈A):cz K H A' a t:=h.map rfl fun _ _ q=>q.bq s
theorem cz.same {A:List Addr} {a:Addr} {t:T} (h:cz K H A a t) (s:aK H H'):cz K H' A a t:=by
 obtain ⟨u,e,_⟩:=h.mut
 exact h.map (by rw [e]; exact s _ _ e) fun _ _ q=>q.same s
theorem cz.at {A:List Addr} {a:Addr} {t:T} (h:cz K H A a t) (n:a∉A):At K H A t (.ref a):=by
 cases t with
 | lst ts=>obtain ⟨vs,e,q⟩:=h; simp only [At]; exact ⟨a,vs,rfl,.inl ⟨.inl e,n⟩,q⟩
 | dk ks ts=>obtain ⟨vs,l,e,q⟩:=h; simp only [At]; exact ⟨a,vs,rfl,l,⟨e,n⟩,q⟩
 | dt ks ts=>obtain ⟨vs,l,e,q⟩:=h; simp only [At]; exact ⟨a,vs,rfl,l,⟨e,n⟩,q⟩
 | ins C ns ts=>obtain ⟨dx,vs,l,e,q⟩:=h; simp only [At]; exact ⟨a,dx,vs,rfl,l,⟨e,n⟩,q⟩
 | _=>exact h.elim
theorem oa.map {A A':List Addr} {e:Option (T×Bool)} {o:Option Addr} {s:Option V} (h:oa K H A e o s) (h1:∀ t v,At K H A t v→At K H' A' t v) (h2:∀ a t,o=some a→cz K H A a t→cz K H' A' a t):oa K H' A' e o s:=by
 match e,h with
 | none,h=>exact h
 | some (t,false),⟨e,v,es,q⟩=>exact ⟨e,v,es,h1 _ _ q⟩
 | some (t,true),⟨a,e,es,q⟩=>exact ⟨a,e,es,h2 _ _ e q⟩
theorem aN {a:Addr}:a∈roots O↔some a∈O:=by
 unfold roots
 rw [List.mem_filterMap]
 exact ⟨fun ⟨x,h,e⟩=>by rw [id] at e; rw [← e]; exact h,fun h=>⟨_,h,rfl⟩⟩
theorem ax.KJ (I:ax K Z tm O ρ σ H):∀ a∈av Z O,H a≠none:=fun a h=>by
 rcases iw.mp h with h | h
 · obtain ⟨_,_,u,e,_⟩:=I.own a h; rw [e]; simp
 · exact I.ox a h
theorem ax.same (I:ax K Z tm O ρ σ H) (s:aK H H'):ax K Z tm O ρ σ H' :=
 ⟨I.lσ,I.lO,fun i e h=>let ⟨o,w,h1,h2,h3⟩:=I.sl i e h; ⟨o,w,h1,h2,h3.map (fun _ _ q=>q.same s) fun _ _ _ q=>q.same s⟩,I.nd,
   fun a h=>let ⟨h1,h2,u,e,m⟩:=I.own a h; ⟨h1,h2,u,s _ _ e,m⟩,I.par,fun a h=>by
    cases e:H a with
    | none=>exact absurd e (I.ox a h)
    | some u=>rw [s _ _ e]; simp,
   fun b o e n=>s _ _ (I.keep b o e n),fun p hp=>(I.nL p hp).same s⟩
theorem cu (i:Nat):∀ a∈roots (O.set i none),a∈roots O:=fun a h=>by
 rw [aN] at h ⊢
 rcases Nn h with z | z
 · exact z
 · cases z
theorem fJ:∀ (O:List (Option Addr)) (i:Nat),(roots O).Nodup→(roots (O.set i none)).Nodup
 | [],i,h=>by simpa using h
 | o :: O,0,h=>by
   cases o with
   | none=>simpa [roots] using h
   | some a=>simp only [roots,Q3,nD,id] at h ⊢; exact (qe.mp h).2
 | o :: O,i+1,h=>by
   have key:=fJ O i
   cases o with
   | none=>simp only [roots,MW,nD,id] at h ⊢; exact key h
   | some a =>
     simp only [roots,MW,nD,id] at h ⊢
     rw [qe] at h ⊢
     exact ⟨fun z=>h.1 (cu i a z),key h.2⟩
theorem cb (i:Nat):∀ a∈av Z (O.set i none),a∈av Z O:=fun a h=>by
 rcases iw.mp h with h | h
 · exact ll _ (cu i a h)
 · exact lj _ h
theorem get_set {α:Type} {l:List α} {i j:Nat} {x y:α} (h:(l.set i x)[j]?=some y):(j=i∧y=x∧i < l.length)∨(j≠i∧l[j]?=some y):=by
 rw [List.getElem?_set] at h
 by_cases e:i=j
 · rw [if_pos e] at h
   by_cases hl:i < l.length
   · rw [if_pos hl] at h
     exact .inl ⟨e.symm,(Option.some.inj h).symm,hl⟩
   · rw [if_neg hl] at h; cases h
 · rw [if_neg e] at h
   exact .inr ⟨fun z=>e z.symm,h⟩
theorem ax.put (I:ax K Z tm O ρ σ H) {i:Nat} {t:T} {v:V} (hp:∀ p∈Z.P,p.1≠i) (hv:At K H (av Z O) t v):ax K Z tm (O.set i none) (ρ.set i (some (t,false))) (σ.set i (some v)) H:=by
 have fw:∀ {t:T} {v:V},At K H (av Z O) t v→At K H (av Z (O.set i none)) t v:=fun q=>q.bq (cb i)
 refine ⟨by simp [I.lσ],by simp [I.lO],fun j e h=>?_,fJ _ _ I.nd,fun a h=>I.own a (cu i a h),fun p q=>?_,I.ox,I.keep,fun p q=>fw (I.nL p q)⟩
 · rcases get_set h with ⟨rfl,rfl,hl⟩ | ⟨ne,h⟩
   · exact ⟨none,some v,by rw [yq (by rw [I.lO]; exact hl)],by rw [yq (by rw [I.lσ]; exact hl)],rfl,v,rfl,fw hv⟩
   · obtain ⟨o,s,h1,h2,h3⟩:=I.sl j e h
     exact ⟨o,s,by rw [uk (Ne.symm ne)]; exact h1,by rw [uk (Ne.symm ne)]; exact h2,h3.map (fun _ _ q=>fw q) fun _ _ _ q=>q.bq (cb i)⟩
 · rw [uk (Ne.symm (hp p q))]; exact I.par p q
theorem ax.forget (I:ax K Z tm O ρ σ H) {i:Nat} (hp:∀ p∈Z.P,p.1≠i):ax K Z tm (O.set i none) (ρ.set i none) σ H:=by
 have fw:∀ {t:T} {v:V},At K H (av Z O) t v→At K H (av Z (O.set i none)) t v:=fun q=>q.bq (cb i)
 refine ⟨by simp [I.lσ],by simp [I.lO],fun j e h=>?_,fJ _ _ I.nd,fun a h=>I.own a (cu i a h),fun p q=>?_,I.ox,I.keep,fun p q=>fw (I.nL p q)⟩
 · rcases get_set h with ⟨rfl,rfl,hl⟩ | ⟨ne,h⟩
   · obtain ⟨s,hs⟩:∃ s,σ[j]?=some s:=⟨σ[j]'(by rw [I.lσ]; exact hl),by simp⟩
     exact ⟨none,s,by rw [yq (by rw [I.lO]; exact hl)],hs,rfl⟩
   · obtain ⟨o,s,h1,h2,h3⟩:=I.sl j e h
     exact ⟨o,s,by rw [uk (Ne.symm ne)]; exact h1,h2,h3.map (fun _ _ q=>fw q) fun _ _ _ q=>q.bq (cb i)⟩
 · rw [uk (Ne.symm (hp p q))]; exact I.par p q
theorem mF:∀ (O:List (Option Addr)) (i:Nat) (a:Addr),a∉roots O→(roots O).Nodup→(roots (O.set i (some a))).Nodup
 | [],i,a,_,h=>by simpa using h
 | o :: O,0,a,n,h=>by
   cases o with
   | none=>simp only [roots,Q3,nD,id] at n h ⊢; exact qe.mpr ⟨n,h⟩
   | some b =>
     simp only [roots,Q3,nD,id] at n h ⊢
     exact qe.mpr ⟨fun z=>n (jC _ z),(qe.mp h).2⟩
 | o :: O,i+1,a,n,h=>by
   have key:=mF O i a
   cases o with
   | none=>simp only [roots,MW,nD,id] at n h ⊢; exact key n h
   | some b =>
     simp only [roots,MW,nD,id] at n h ⊢
     rw [qe] at h ⊢
     refine ⟨fun z=>?_,key (fun z=>n (jC _ z)) h.2⟩
     have z':some b∈O.set i (some a):=aN.mp z
     rcases Nn z' with q | q
     · exact h.1 (aN.mpr q)
     · exact n (by rw [Option.some.inj q]; exact ij)
theorem uH {a:Addr} (i:Nat):∀ b∈av Z (O.set i (some a)),b∈av (Z.ex a) O:=fun b h=>by
 rcases iw.mp h with h | h
 · rcases Nn (aN.mp h) with z | z
   · exact ll _ (aN.mpr z)
   · exact lj _ (by rw [Option.some.inj z]; exact ij)
 · exact lj _ (jC _ h)
theorem ax.Ta {a:Addr} (I:ax K (Z.ex a) tm O ρ σ H) {i:Nat} {t:T} (hp:∀ p∈Z.P,p.1≠i) (hv:cz K H (av (Z.ex a) O) a t) (h0:Z.H0 a=none) (hx:a∉Z.Ox):ax K Z tm (O.set i (some a)) (ρ.set i (some (t,true))) (σ.set i (some (.ref a))) H:=by
 have sub:=uH (Z:=Z) (O:=O) (a:=a) i
 have fw:∀ {t:T} {v:V},At K H (av (Z.ex a) O) t v→At K H (av Z (O.set i (some a))) t v:=fun q=>q.bq sub
 have na:a∉roots O:=fun z=>(I.own a z).2.1 ij
 refine ⟨by simp [I.lσ],by simp [I.lO],fun j e h=>?_,mF _ _ _ na I.nd,fun b h=>?_,fun p q=>?_,fun b h=>I.ox b (jC _ h),I.keep,fun p q=>fw (I.nL p q)⟩
 · rcases get_set h with ⟨rfl,rfl,hl⟩ | ⟨ne,h⟩
   · exact ⟨some a,some (.ref a),by rw [yq (by rw [I.lO]; exact hl)],by rw [yq (by rw [I.lσ]; exact hl)],a,rfl,rfl,hv.bq sub⟩
   · obtain ⟨o,s,h1,h2,h3⟩:=I.sl j e h
     exact ⟨o,s,by rw [uk (Ne.symm ne)]; exact h1,by rw [uk (Ne.symm ne)]; exact h2,h3.map (fun _ _ q=>fw q) fun _ _ _ q=>q.bq sub⟩
 · rcases Nn (aN.mp h) with z | z
   · obtain ⟨h1,h2,h3⟩:=I.own b (aN.mpr z)
     exact ⟨h1,fun q=>h2 (jC _ q),h3⟩
   · cases z
     exact ⟨.inr h0,hx,hv.mut⟩
 · rw [uk (Ne.symm (hp p q))]; exact I.par p q
theorem ax.ue (I:ax K Z tm O ρ σ H) {i:Nat} {t:T} (hp:∀ p∈Z.P,p.1≠i) (hi:ρ[i]?=some (some (t,true))):ax K Z tm (O.set i none) (ρ.set i (some (t,false))) σ H:=by
 have fw:∀ {t:T} {v:V},At K H (av Z O) t v→At K H (av Z (O.set i none)) t v:=fun q=>q.bq (cb i)
 obtain ⟨o,s,h1,h2,a,rfl,rfl,hr⟩:=I.sl i _ hi
 have ha:a∈roots O:=aN.mpr (mW h1)
 have na:a∉roots (O.set i none):=fun z=>by
  obtain ⟨j,hj⟩:=Ju.mp (aN.mp z)
  rcases get_set hj with ⟨_,q,_⟩ | ⟨ne,q⟩
  · cases q
  · -- two places of one root
    have key:∀ (O:List (Option Addr)) (i j:Nat),i < j→O[i]?=some (some a)→O[j]?=some (some a)→(roots O).Nodup→False:=by
     intro O
     induction O with
     | nil=>intro i j _ h; simp at h
     | cons o O ih =>
       intro i j FY e1 e2 nd
       cases j with
       | zero=>omega
       | succ j =>
         have ES:O[j]?=some (some a):=by simpa using e2
         cases i with
         | zero =>
           have:o=some a:=by simpa using e1
           subst this
           simp only [roots,nD,id] at nd
           exact (qe.mp nd).1 (aN.mpr (mW ES))
         | succ i =>
           refine ih i j (by omega) (by simpa using e1) ES ?_
           cases o with
           | none=>simpa [roots] using nd
           | some b=>simp only [roots,nD,id] at nd; exact (qe.mp nd).2
    rcases Nat.lt_or_gt_of_ne ne with l | l
    · exact key O j i l q h1 I.nd
    · exact key O i j l h1 q I.nd
 have Xj:a∉av Z (O.set i none):=fun z=>by
  rcases iw.mp z with z | z
  · exact na z
  · exact (I.own a ha).2.1 z
 refine ⟨by simp [I.lσ],by simp [I.lO],fun j e h=>?_,fJ _ _ I.nd,fun a h=>I.own a (cu i a h),fun p q=>?_,I.ox,I.keep,fun p q=>fw (I.nL p q)⟩
 · rcases get_set h with ⟨rfl,rfl,hl⟩ | ⟨ne,h⟩
   · exact ⟨none,some (.ref a),by rw [yq (by rw [I.lO]; exact hl)],h2,rfl,.ref a,rfl,(hr.bq (cb j)).at Xj⟩
   · obtain ⟨o,s,h1,h2,h3⟩:=I.sl j e h
     exact ⟨o,s,by rw [uk (Ne.symm ne)]; exact h1,h2,h3.map (fun _ _ q=>fw q) fun _ _ _ q=>q.bq (cb i)⟩
 · rw [uk (Ne.symm (hp p q))]; exact I.par p q
theorem ax.wrote (I:ax K Z tm O ρ σ H) {i:Nat} {t t':T} {a:Addr} {u:HO} (hi:ρ[i]?=some (some (t,true))) (hO:O[i]?=some (some a)) (hr:cz K (upd H a u) (av Z O) a t'):ax K Z tm O (ρ.set i (some (t',true))) σ (upd H a u):=by
 have ha:a∈roots O:=aN.mpr (mW hO)
 have FZ:a∈av Z O:=ll _ ha
 obtain ⟨hP,hx,u0,e0,m0⟩:=I.own a ha
 have inj:∀ j b,j≠i→O[j]?=some (some b)→b≠a:=by
  intro j b ne hj e
  subst e
  have key:∀ (O:List (Option Addr)) (i j:Nat),i < j→O[i]?=some (some b)→O[j]?=some (some b)→(roots O).Nodup→False:=by
   intro O
   induction O with
   | nil=>intro i j _ h; simp at h
   | cons o O ih =>
     intro i j FY e1 e2 nd
     cases j with
     | zero=>omega
     | succ j =>
       have ES:O[j]?=some (some b):=by simpa using e2
       cases i with
       | zero =>
         have:o=some b:=by simpa using e1
         subst this
         simp only [roots,nD,id] at nd
         exact (qe.mp nd).1 (aN.mpr (mW ES))
       | succ i =>
         refine ih i j (by omega) (by simpa using e1) ES ?_
         cases o with
         | none=>simpa [roots] using nd
         | some c=>simp only [roots,nD,id] at nd; exact (qe.mp nd).2
  rcases Nat.lt_or_gt_of_ne ne with l | l
  · exact key O j i l hj hO I.nd
  · exact key O i j l hO hj I.nd
 refine ⟨by simp [I.lσ],by simp [I.lO],fun j e h=>?_,I.nd,fun b h=>?_,I.par,fun b h=>?_,fun b o e n=>?_,fun p q=>(I.nL p q).wrote FZ e0 m0⟩
 · rcases get_set h with ⟨rfl,rfl,hl⟩ | ⟨ne,h⟩
   · obtain ⟨o,s,h1,h2,a',h4,h5,h6⟩:=I.sl j _ hi
     rw [hO] at h1
     cases h1
     cases h4
     exact ⟨_,s,hO,h2,a,rfl,h5,hr⟩
   · obtain ⟨o,s,h1,h2,h3⟩:=I.sl j e h
     refine ⟨o,s,h1,h2,h3.map (fun _ _ q=>q.wrote FZ e0 m0) fun b t e q=>?_⟩
     subst e
     exact q.map (aE (inj j b ne h1)) fun _ _ z=>z.wrote FZ e0 m0
 · obtain ⟨h1,h2,v,e,m⟩:=I.own b h
   by_cases hb:b=a
   · subst hb; exact ⟨h1,h2,hr.mut⟩
   · exact ⟨h1,h2,v,by rw [aE hb]; exact e,m⟩
 · by_cases hb:b=a
   · subst hb; exact absurd h hx
   · rw [aE hb]; exact I.ox b h
 · by_cases hb:b=a
   · subst hb
     rcases hP with q | q
     · exact absurd q n
     · rw [q] at e; cases e
   · rw [aE hb]; exact I.keep b o e n
theorem ax.fresh (I:ax K Z tm O ρ σ H) {a:Addr} (h:H a=none):a∉av Z O∧a∉Z.Ox∧Z.H0 a=none:=by
 refine ⟨fun z=>I.KJ a z h,fun z=>I.ox a z h,?_⟩
 cases e:Z.H0 a with
 | none=>rfl
 | some o =>
   by_cases hp:a∈Z.P.map (·.2)
   · obtain ⟨p,Rm,rfl⟩:=yr.mp hp
     obtain ⟨_,_,u,e',_⟩:=I.own p.2 (aN.mpr (mW (I.par p Rm)))
     rw [h] at e'; cases e'
   · rw [I.keep a o e hp] at h; cases h
theorem dc {a:Addr}:∀ b∈av (Z.ex a) O,b∈av Z O∨b=a:=fun b h=>by
 rcases iw.mp h with h | h
 · exact .inl (ll _ h)
 · rcases dD.mp h with h | h
   · exact .inr h
   · exact .inl (lj _ h)
theorem jg {a:Addr}:∀ b∈av Z O,b∈av (Z.ex a) O:=fun b h=>by
 rcases iw.mp h with h | h
 · exact ll _ h
 · exact lj _ (jC _ h)
theorem ax.new (I:ax K Z tm O ρ σ H) {a:Addr} {u:HO} (h:H a=none) (hu:uG u=true):ax K (Z.ex a) tm O ρ σ (upd H a u):=by
 have s:aK H (upd H a u):=aM h
 have J:=I.same s
 obtain ⟨n1,n2,n3⟩:=I.fresh h
 have mr:∀ b∈av (Z.ex a) O,b∈av Z O∨H b=none:=fun b hb=>(dc b hb).imp id fun e=>by rw [e]; exact h
 have fw:∀ {t:T} {v:V},At K H (av Z O) t v→At K (upd H a u) (av (Z.ex a) O) t v:=fun q=>(q.more mr).same s
 refine ⟨J.lσ,J.lO,fun i e hi=>?_,J.nd,fun b hb=>?_,J.par,fun b hb=>?_,J.keep,fun p hp=>fw (I.nL p hp)⟩
 · obtain ⟨o,w,h1,h2,h3⟩:=I.sl i e hi
   refine ⟨o,w,h1,h2,h3.map (fun _ _ q=>fw q) fun b t eo q=>?_⟩
   refine cz.same (q.map rfl fun _ _ z=>z.more mr) s
 · obtain ⟨q1,q2,q3⟩:=J.own b hb
   refine ⟨q1,fun z=>?_,q3⟩
   rcases dD.mp z with z | z
   · exact n1 (by rw [← z]; exact ll _ hb)
   · exact q2 z
 · rcases dD.mp hb with z | z
   · rw [z,aT]; simp
   · exact J.ox b z
theorem ax.Tb {a:Addr} (I:ax K (Z.ex a) tm O ρ σ H):ax K Z tm O ρ σ H :=
 ⟨I.lσ,I.lO,fun i e h=>let ⟨o,w,h1,h2,h3⟩:=I.sl i e h; ⟨o,w,h1,h2,h3.map (fun _ _ q=>q.bq jg) fun _ _ _ q=>q.bq jg⟩,I.nd,
   fun b h=>let ⟨q1,q2,q3⟩:=I.own b h; ⟨q1,fun z=>q2 (jC _ z),q3⟩,I.par,fun b h=>I.ox b (jC _ h),I.keep,fun p hp=>(I.nL p hp).bq jg⟩
end
inductive Rt where
 | vw (t:T)
 | fr (t:T)
def Rt.t:Rt→T
 | .vw t=>t
 | .fr t=>t
def gB (K:PySem.W.Frag) (H:Hp) (A:List Addr) (t:T) (v:V):Prop:=At K H A t v∨∃ a,v = .ref a∧cz K H A a t
def iO (K:PySem.W.Frag) (Z:Zc) (tm:List (T×V)) (O:List (Option Addr)) (ρ:En) (σ:St) (H:Hp):Rt→V→Prop
 | .vw t,v=>ax K Z tm O ρ σ H∧At K H (av Z O) t v
 | .fr t,v=>∃ a,v = .ref a∧ax K (Z.ex a) tm O ρ σ H∧cz K H (av (Z.ex a) O) a t∧Z.H0 a=none∧a∉Z.Ox
abbrev FE:=En→(T→Prop)→Prop
abbrev FP:=En→(Rt→Prop)→Prop
abbrev FX:=En→(En→Rt→Prop)→Prop
abbrev FB:=En→(Bool→Prop)→Prop
abbrev FA:=En→(List T→Prop)→Prop
section
variable {K:PySem.W.Frag} {Z:Zc} {tm:List (T×V)} {O:List (Option Addr)} {ρ:En} {σ:St} {H H':Hp} {A:List Addr}
theorem gB.same {t:T} {v:V} (s:aK H H') (h:gB K H A t v):gB K H' A t v:=h.imp (fun q=>q.same s) fun ⟨a,e,q⟩=>⟨a,e,q.same s⟩
theorem gB.lst {ts:List T} {v:V} (h:gB K H A (.lst ts) v):∃ a vs,v = .ref a∧eJ K H a vs∧aG K H A ts vs:=by
 rcases h with h | ⟨a,rfl,vs,e,q⟩
 · simp only [At] at h
   obtain ⟨a,vs,rfl,l,q⟩:=h
   exact ⟨a,vs,rfl,l.sq,q⟩
 · exact ⟨a,vs,rfl,eJ.of e,q⟩
theorem gB.tup {ts:List T} {v:V} (h:gB K H A (.tup ts) v):∃ a vs,v = .ref a∧dF K H a vs∧aG K H A ts vs:=by
 rcases h with h | ⟨a,rfl,q⟩
 · simpa only [At] using h
 · exact q.elim
theorem gB.dk {ks:List Key} {ts:List T} {v:V} (h:gB K H A (.dk ks ts) v):∃ a vs,v = .ref a∧ks.length=vs.length∧H a=some (.dK (ks.zip vs))∧aG K H A ts vs:=by
 rcases h with h | ⟨a,rfl,vs,l,e,q⟩
 · simp only [At] at h
   obtain ⟨a,vs,rfl,l,d,q⟩:=h
   exact ⟨a,vs,rfl,l,d.1,q⟩
 · exact ⟨a,vs,rfl,l,e,q⟩
theorem gB.dt {ks:List (List Key)} {ts:List T} {v:V} (h:gB K H A (.dt ks ts) v):∃ a vs,v = .ref a∧ks.length=vs.length∧H a=some (.dT (ks.zip vs))∧aG K H A ts vs:=by
 rcases h with h | ⟨a,rfl,vs,l,e,q⟩
 · simp only [At] at h
   obtain ⟨a,vs,rfl,l,d,q⟩:=h
   exact ⟨a,vs,rfl,l,d.1,q⟩
 · exact ⟨a,vs,rfl,l,e,q⟩
theorem gB.df {o:Obj} {ks:List (List Key)} {ts:List T} {v:V} (h:gB K H A (.df o ks ts) v):∃ a vs,v = .ref a∧ks.length=vs.length∧H a=some (.ue o (.dT (ks.zip vs)))∧aG K H A ts vs:=by
 rcases h with h | ⟨a,rfl,q⟩
 · simp only [At] at h
   obtain ⟨a,vs,rfl,l,d,q⟩:=h
   exact ⟨a,vs,rfl,l,d.1,q⟩
 · exact q.elim
theorem gB.dz {o:Obj} {ks:List Key} {ts:List T} {v:V} (h:gB K H A (.dz o ks ts) v):∃ a vs,v = .ref a∧ks.length=vs.length∧H a=some (.ue o (.dK (ks.zip vs)))∧aG K H A ts vs:=by
 rcases h with h | ⟨a,rfl,q⟩
 · simp only [At] at h
   obtain ⟨a,vs,rfl,l,d,q⟩:=h
   exact ⟨a,vs,rfl,l,d.1,q⟩
 · exact q.elim
theorem gB.kt {k:List Key} {v:V} (h:gB K H A (.kt k) v):∃ a,v = .ref a∧H a=some (.tup (k.map kV)):=by
 rcases h with h | ⟨a,rfl,q⟩
 · simp only [At] at h
   obtain ⟨a,rfl,d⟩:=h
   exact ⟨a,rfl,d.1⟩
 · exact q.elim
theorem gB.ins {C:Addr} {ns:List Str} {ts:List T} {v:V} (h:gB K H A (.ins C ns ts) v):∃ a dx vs,v = .ref a∧ns.length=vs.length∧H a=some (.ins C dx (ns.zip vs))∧aG K H A ts vs:=by
 rcases h with h | ⟨a,rfl,dx,vs,l,e,q⟩
 · simp only [At] at h
   obtain ⟨a,dx,vs,rfl,l,d,q⟩:=h
   exact ⟨a,dx,vs,rfl,l,d.1,q⟩
 · exact ⟨a,dx,vs,rfl,l,e,q⟩
theorem gB.int {i:Int} {v:V} (h:gB K H A (.int i) v):v = .int i:=h.elim (fun q=>by simpa only [At] using q) fun ⟨_,_,q⟩=>q.elim
theorem gB.str {i:Str} {v:V} (h:gB K H A (.str i) v):v = .str i:=h.elim (fun q=>by simpa only [At] using q) fun ⟨_,_,q⟩=>q.elim
theorem gB.bl {i:Bool} {v:V} (h:gB K H A (.bl i) v):v = .bl i:=h.elim (fun q=>by simpa only [At] using q) fun ⟨_,_,q⟩=>q.elim
theorem gB.bu {v:V} (h:gB K H A .bu v):v = .bu:=h.elim (fun q=>by simpa only [At] using q) fun ⟨_,_,q⟩=>q.elim
theorem gB.ob {a:Addr} {v:V} (h:gB K H A (.ob a) v):v = .ref a:=h.elim (fun q=>by simpa only [At] using q) fun ⟨_,_,q⟩=>q.elim
theorem bE {i:Int}:At K H A (.int i) (.int i):=by simp only [At]
theorem cf {i:Str}:At K H A (.str i) (.str i):=by simp only [At]
theorem cM {i:Bool}:At K H A (.bl i) (.bl i):=by simp only [At]
theorem og:At K H A .bu .bu:=by simp only [At]
theorem br {ts:List T} {a:Addr} {vs:List V} (h:dF K H a vs) (q:aG K H A ts vs):At K H A (.tup ts) (.ref a):=by simp only [At]; exact ⟨a,vs,rfl,h,q⟩
theorem iO.env {r:Rt} {v:V} (h:iO K Z tm O ρ σ H r v):ax K Z tm O ρ σ H:=by
 cases r with
 | vw t=>exact h.1
 | fr t=>obtain ⟨a,_,I,_⟩:=h; exact I.Tb
theorem iO.at {r:Rt} {v:V} (h:iO K Z tm O ρ σ H r v):At K H (av Z O) r.t v:=by
 cases r with
 | vw t=>exact h.2
 | fr t =>
   obtain ⟨a,rfl,I,q,_,hx⟩:=h
   refine (q.bq jg).at fun z=>?_
   rcases iw.mp z with z | z
   · exact (I.own a z).2.1 ij
   · exact hx z
theorem ax.Cd (I:ax K Z tm O ρ σ H) {a:Addr} {ts:List T} {vs:List V} (h:H a=none) (q:aG K H (av Z O) ts vs):iO K Z tm O ρ σ (upd H a (.lst vs)) (.fr (.lst ts)) (.ref a):=by
 obtain ⟨n1,n2,n3⟩:=I.fresh h
 exact ⟨a,rfl,I.new h rfl,⟨vs,aT,(q.more fun b hb=>(dc b hb).imp id fun e=>by rw [e]; exact h).same (aM h)⟩,n3,n2⟩
theorem ax.newD (I:ax K Z tm O ρ σ H) {a:Addr} {ks:List Key} {ts:List T} {vs:List V} (h:H a=none) (hl:ks.length=vs.length) (q:aG K H (av Z O) ts vs):iO K Z tm O ρ σ (upd H a (.dK (ks.zip vs))) (.fr (.dk ks ts)) (.ref a):=by
 obtain ⟨n1,n2,n3⟩:=I.fresh h
 exact ⟨a,rfl,I.new h rfl,⟨vs,hl,aT,(q.more fun b hb=>(dc b hb).imp id fun e=>by rw [e]; exact h).same (aM h)⟩,n3,n2⟩
end
structure Bx (p:List (T×V)→Prop):Prop where
 h:∀ tm,p tm
section
variable (X:Cx) (Z:Zc)
def lR (tm:List (T×V)) (f:FE):TE:=fun σ H Q=>∃ ρ O q,ax X.K Z tm O ρ σ H∧f ρ q∧∀ t,q t→∀ v H',aK H H'→gB X.K H' (av Z O) t v→Q v H'
def lE (tm:List (T×V)) (f:FE):TE:=fun σ H Q=>∃ ρ O q,ax X.K Z tm O ρ σ H∧f ρ q∧∀ t,q t→∀ v H',aK H H'→At X.K H' (av Z O) t v→Q v H'
def lP (tm:List (T×V)) (f:FP):TE:=fun σ H Q=>∃ ρ O q,ax X.K Z tm O ρ σ H∧f ρ q∧∀ r,q r→∀ v H',aK H H'→iO X.K Z tm O ρ σ H' r v→Q v H'
def lX (tm:List (T×V)) (f:FX):TE:=fun σ H Q=>∃ ρ O q,ax X.K Z tm O ρ σ H∧f ρ q∧∀ ρ' r,q ρ' r→∀ O' v H',iO X.K Z tm O' ρ' σ H' r v→Q v H'
def lB (tm:List (T×V)) (f:FB):TT:=fun σ H Q=>∃ ρ O q,ax X.K Z tm O ρ σ H∧f ρ q∧∀ b,q b→∀ H',aK H H'→Q b H'
def lA (tm:List (T×V)) (f:FA):TA:=fun σ H Q=>∃ ρ O q,ax X.K Z tm O ρ σ H∧f ρ q∧∀ ts,q ts→∀ vs H',aK H H'→aG X.K H' (av Z O) ts vs→Q vs H'
def V9 (tm:List (T×V)) (f:FA):TA:=fun σ H Q=>∃ ρ O q,ax X.K Z tm O ρ σ H∧f ρ q∧∀ ts,q ts→∀ vs H',aK H H'→Paired (fun v t=>gB X.K H' (av Z O) t v) vs ts→Q vs H'
def VR (e:Expr) (f:FE):Prop:=Bx fun tm=>PE X e (lR X Z tm f)
instance {e:Expr} {f:FE}:CoeFun (VR X Z e f) fun _=>∀ tm,PE X e (lR X Z tm f):=⟨fun h=>Bx.h h⟩
def VE (e:Expr) (f:FE):Prop:=Bx fun tm=>PE X e (lE X Z tm f)
instance {e:Expr} {f:FE}:CoeFun (VE X Z e f) fun _=>∀ tm,PE X e (lE X Z tm f):=⟨fun h=>Bx.h h⟩
def VP (e:Expr) (f:FP):Prop:=Bx fun tm=>PE X e (lP X Z tm f)
instance {e:Expr} {f:FP}:CoeFun (VP X Z e f) fun _=>∀ tm,PE X e (lP X Z tm f):=⟨fun h=>Bx.h h⟩
def VX (e:Expr) (f:FX):Prop:=Bx fun tm=>PE X e (lX X Z tm f)
instance {e:Expr} {f:FX}:CoeFun (VX X Z e f) fun _=>∀ tm,PE X e (lX X Z tm f):=⟨fun h=>Bx.h h⟩
def VC (e:Expr) (f:FB):Prop:=Bx fun tm=>PT X e (lB X Z tm f)
instance {e:Expr} {f:FB}:CoeFun (VC X Z e f) fun _=>∀ tm,PT X e (lB X Z tm f):=⟨fun h=>Bx.h h⟩
def VW (e:Expr) (f:FB):Prop:=Bx fun tm=>PW X e (lB X Z tm f)
instance {e:Expr} {f:FB}:CoeFun (VW X Z e f) fun _=>∀ tm,PW X e (lB X Z tm f):=⟨fun h=>Bx.h h⟩
def VA (es:List Expr) (f:FA):Prop:=Bx fun tm=>PA X es (lA X Z tm f)
instance {es:List Expr} {f:FA}:CoeFun (VA X Z es f) fun _=>∀ tm,PA X es (lA X Z tm f):=⟨fun h=>Bx.h h⟩
def EU (es:List Expr) (f:FA):Prop:=Bx fun tm=>PA X es (V9 X Z tm f)
instance {es:List Expr} {f:FA}:CoeFun (EU X Z es f) fun _=>∀ tm,PA X es (V9 X Z tm f):=⟨fun h=>Bx.h h⟩
end
theorem PE.weak {X:Cx} {e:Expr} {t t':TE} (h:PE X e t) (hw:∀ σ H Q,t' σ H Q→t σ H Q):PE X e t':=fun pins s σ H Q I q=>h pins s σ H Q I (hw _ _ _ q)
theorem PT.weak {X:Cx} {e:Expr} {t t':TT} (h:PT X e t) (hw:∀ σ H Q,t' σ H Q→t σ H Q):PT X e t':=fun pins s σ H Q I q=>h pins s σ H Q I (hw _ _ _ q)
theorem PW.weak {X:Cx} {e:Expr} {t t':TT} (h:PW X e t) (hw:∀ σ H Q,t' σ H Q→t σ H Q):PW X e t':=fun wh pins s σ H Q I q=>h wh pins s σ H Q I (hw _ _ _ q)
theorem PA.weak {X:Cx} {e:List Expr} {t t':TA} (h:PA X e t) (hw:∀ σ H Q,t' σ H Q→t σ H Q):PA X e t':=fun pos pins s σ H Q I q=>h pos pins s σ H Q I (hw _ _ _ q)
theorem PS.weak {X:Cx} {b:Stmt} {t t':TS} (h:PS X b t) (hw:∀ D σ H,t' D σ H→t D σ H):PS X b t':=fun pins s σ H D I q=>h pins s σ H D I (hw D σ H q)
theorem nH.uI {X:Cx} {b:List Stmt} {t t':TS} (h:nH X b t) (hw:∀ D σ H,t' D σ H→t D σ H):nH X b t':=fun pins s σ H D I q=>h pins s σ H D I (hw D σ H q)
section
variable {X:Cx} {Z:Zc} {e a b:Expr} {es:List Expr} {pos:Pos}
theorem VE.vr {f:FE} (h:VE X Z e f):VR X Z e f:=.mk fun tm=>PE.weak (h tm) fun σ H Q ⟨ρ,O,q,I,hf,k⟩=>⟨ρ,O,q,I,hf,fun t ht v H' s z=>k t ht v H' s (.inl z)⟩
def fT (f:FP):FE:=fun ρ Q=>f ρ fun r=>Q r.t
def fX (f:FP):FX:=fun ρ Q=>f ρ fun r=>Q ρ r
theorem VP.ve {f:FP} (h:VP X Z e f):VE X Z e (fT f):=.mk fun tm=>PE.weak (h tm) fun σ H Q ⟨ρ,O,q,I,hf,k⟩=>⟨ρ,O,fun r=>q r.t,I,hf,fun r hr v H' s z=>k r.t hr v H' s z.at⟩
theorem VP.vr {f:FP} (h:VP X Z e f):VR X Z e (fT f):=h.ve.vr
theorem VP.vx {f:FP} (h:VP X Z e f):VX X Z e (fX f):=.mk fun tm=>PE.weak (h tm) fun σ H Q ⟨ρ,O,q,I,hf,k⟩=>⟨ρ,O,fun r=>q ρ r,I,hf,fun r hr v H' s z=>k ρ r hr O v H' z⟩
def Ow (i:Nat):FE:=fun ρ Q=>match ρ[i]? with
 | some (some (t,false))=>Q t
 | _=>False
def Ir (i:Nat):FE:=fun ρ Q=>match ρ[i]? with
 | some (some (t,_))=>Q t
 | _=>False
theorem ak (i:Nat) {x:Str} (hN:X.N[i]?=some x:=by rfl) (hv:rY X.env.scope x:=by first | exact Or.inl rfl | exact Or.inr (Or.inl rfl) | exact Or.inr (Or.inr rfl)) (hd:gg x:=by decide)
  (iB:ug x:=by decide):VE X Z (.Name x pos) (Ow i):=.mk fun tm=>PE.weak (cW hN hv hd iB) fun σ H Q ⟨ρ,O,q,I,hf,k⟩=>by
 unfold Ow at hf
 split at hf
 · rename_i t e
   obtain ⟨o,s,h1,h2,rfl,v,rfl,h3⟩:=I.sl i _ e
   exact ⟨v,h2,k t hf v H (aK.refl H) h3⟩
 · exact hf.elim
theorem aa (i:Nat) {x:Str} (hN:X.N[i]?=some x:=by rfl) (hv:rY X.env.scope x:=by first | exact Or.inl rfl | exact Or.inr (Or.inl rfl) | exact Or.inr (Or.inr rfl)) (hd:gg x:=by decide)
  (iB:ug x:=by decide):VR X Z (.Name x pos) (Ir i):=.mk fun tm=>PE.weak (cW hN hv hd iB) fun σ H Q ⟨ρ,O,q,I,hf,k⟩=>by
 unfold Ir at hf
 split at hf
 · rename_i t b e
   obtain ⟨o,s,h1,h2,h3⟩:=I.sl i _ e
   cases b with
   | false=>obtain ⟨rfl,v,rfl,h3⟩:=h3; exact ⟨v,h2,k t hf v H (aK.refl H) (.inl h3)⟩
   | true=>obtain ⟨a,rfl,rfl,h3⟩:=h3; exact ⟨_,h2,k t hf _ H (aK.refl H) (.inr ⟨a,rfl,h3⟩)⟩
 · exact hf.elim
def fC (t:T):FP:=fun _ Q=>Q (.vw t)
theorem Ce {t:T} {v:V} (h:PE X e (tC v)) (ht:∀ H A,At X.K H A t v):VP X Z e (fC t):=.mk fun tm=>PE.weak h fun σ H Q ⟨ρ,O,q,I,hf,k⟩=>k _ hf v H (aK.refl H) ⟨I,ht _ _⟩
theorem af {i j pos}:VP X Z (.Constant (.int i) j pos) (fC (.int i)):=Ce JL fun _ _=>bE
theorem jH {i j pos}:VP X Z (.Constant (.bool i) j pos) (fC (.bl i)):=Ce NB fun _ _=>cM
theorem au {i j pos}:VP X Z (.Constant (.str i) j pos) (fC (.str i)):=Ce JN fun _ _=>cf
theorem jV {j pos}:VP X Z (.Constant .none j pos) (fC .bu):=Ce JM fun _ _=>og
theorem ej {x:Str} {t:T} {v:V} {u:Value} (hg:Gl X x) (hm:X.mg x=some u) (r:RelV v u) (ht:∀ H A,At X.K H A t v) (hd:gg x:=by decide):VP X Z (.Name x pos) (fC t):=Ce (rZ hg hm r hd) ht
def qc (K:PySem.W.Frag) (r:R2) (p:T→T→(Rt→Prop)→Prop):Prop :=
 ∀ (Z:Zc) (tm:List (T×V)) (O:List (Option Addr)) (ρ:En) (σ:St) (H:Hp) (x y:T) (v w:V) (q:Rt→Prop) (Q:VK),ax K Z tm O ρ σ H→gB K H (av Z O) x v→gB K H (av Z O) y w→p x y q →
  (∀ t,q t→∀ u H',aK H H'→iO K Z tm O ρ σ H' t u→Q u H')→r v w H Q
def f2 (fa fb:FE) (p:T→T→(Rt→Prop)→Prop):FP:=fun ρ Q=>fa ρ fun x=>fb ρ fun y=>p x y Q
theorem two {r:R2} {fa fb:FE} {p:T→T→(Rt→Prop)→Prop} (ho:qc X.K r p) {tm:List (T×V)}:∀ σ H Q,lP X Z tm (f2 fa fb p) σ H Q→NP r (lR X Z tm fa) (lR X Z tm fb) σ H Q:=fun σ H Q ⟨ρ,O,q,I,hf,k⟩ =>
 ⟨ρ,O,fun x=>fb ρ fun y=>p x y q,I,hf,fun x hx v H1 s1 a1=>⟨ρ,O,fun y=>p x y q,I.same s1,hx,fun y hy w H2 s2 a2 =>
   ho Z tm O ρ σ H2 x y v w q Q ((I.same s1).same s2) (a1.same s2) a2 hy fun t ht u H' s a=>k t ht u H' ((s1.trans s2).trans s) a⟩⟩
theorem lK {op:Operator} {r:R2} {fa fb:FE} {p:T→T→(Rt→Prop)→Prop} (h:d_ X (binaryOp op) r) (ho:qc X.K r p) (ha:VR X Z a fa) (hb:VR X Z b fb):VP X Z (.BinOp a op b pos) (f2 fa fb p) :=
 .mk fun tm=>PE.weak (NQ h (ha tm) (hb tm)) (two ho)
theorem oh {op:CmpOp} {r:R2} {fa fb:FE} {p:T→T→(Rt→Prop)→Prop} (h:d_ X (compareOp op) r) (ho:qc X.K r p) (ha:VR X Z a fa) (hb:VR X Z b fb) (hm:behindInMarks op b=false):VP X Z (.Compare a [op] [b] pos) (f2 fa fb p) :=
 .mk fun tm=>PE.weak (Fs h (ha tm) (hb tm) hm) (two ho)
def qr (f:FP):FB:=fun ρ Q=>f ρ fun r=>match r with
 | .vw (.bl c)=>Q c
 | _=>False
theorem wK {r:Rt} {Q:Bool→Prop} (h:match r with | .vw (.bl c)=>Q c | _=>False):∃ c,r = .vw (.bl c)∧Q c:=by
 split at h
 · exact ⟨_,rfl,h⟩
 · exact h.elim
theorem jW {op:CmpOp} {r:R2} {fa fb:FE} {p:T→T→(Rt→Prop)→Prop} (h:d_ X (compareOp op) r) (ho:qc X.K r p) (ha:VR X Z a fa) (hb:VR X Z b fb) (hm:behindInMarks op b=false):VC X Z (.Compare a [op] [b] pos) (qr (f2 fa fb p)) :=
 .mk fun tm=>PT.weak (Ft h (ha tm) (hb tm) hm) fun σ H Q ⟨ρ,O,q,I,hf,k⟩=>two ho σ H _ ⟨ρ,O,_,I,hf,fun t ht u H' s a=>by
  obtain ⟨c,rfl,hc⟩:=wK ht
  have e:=a.2
  simp only [At] at e
  exact ⟨c,e,k c hc H' s⟩⟩
theorem cY {f:FP} (h:VP X Z e f) (he:∀ whole,isTrue e X.env whole=(do let v ← whole; standAt e.pos; holding [v] (truthy v)):=by intro _; rfl):VC X Z e (qr f) :=
 .mk fun tm=>PT.weak (JO (h tm) he) fun σ H Q ⟨ρ,O,q,I,hf,k⟩=>⟨ρ,O,_,I,hf,fun t ht u H' s a=>by
  obtain ⟨c,rfl,hc⟩:=wK ht
  have e:=a.2
  simp only [At] at e
  exact ⟨c,e,k c hc H' s⟩⟩
def Tc (f g:FB):FB:=fun ρ Q=>f ρ fun c=>if c=true then g ρ Q else Q false
def Xk (f g:FB):FB:=fun ρ Q=>f ρ fun c=>if c=true then Q true else g ρ Q
def Td (f:FB):FB:=fun ρ Q=>f ρ fun c=>Q (!c)
theorem VW.vc {f:FB} (h:VW X Z e f):VC X Z e f:=.mk fun tm=>PW.pt (h tm)
theorem cH {f:FB} (h:VC X Z a f):VW X Z (.BoolOp .And [a] pos) f:=.mk fun tm=>pw_and1 (h tm)
theorem gL {f:FB} (h:VC X Z a f):VW X Z (.BoolOp .Or [a] pos) f:=.mk fun tm=>pw_or1 (h tm)
theorem dh {rest:List Expr} {f g:FB} (h:VC X Z a f) (h':VW X Z (.BoolOp .And (b :: rest) pos) g):VW X Z (.BoolOp .And (a :: b :: rest) pos) (Tc f g) :=
 .mk fun tm=>PW.weak (pw_and (h tm) (h' tm)) fun σ H Q ⟨ρ,O,q,I,hf,k⟩=>⟨ρ,O,_,I,hf,fun c hc H1 s1=>by
  cases c with
  | true=>rw [if_pos rfl] at hc ⊢; exact ⟨ρ,O,q,I.same s1,hc,fun b hb H' s=>k b hb H' (s1.trans s)⟩
  | false=>rw [if_neg qa] at hc ⊢; exact k false hc H1 s1⟩
theorem jI {rest:List Expr} {f g:FB} (h:VC X Z a f) (h':VW X Z (.BoolOp .Or (b :: rest) pos) g):VW X Z (.BoolOp .Or (a :: b :: rest) pos) (Xk f g) :=
 .mk fun tm=>PW.weak (pw_or (h tm) (h' tm)) fun σ H Q ⟨ρ,O,q,I,hf,k⟩=>⟨ρ,O,_,I,hf,fun c hc H1 s1=>by
  cases c with
  | true=>rw [if_pos rfl] at hc ⊢; exact k true hc H1 s1
  | false=>rw [if_neg qa] at hc ⊢; exact ⟨ρ,O,q,I.same s1,hc,fun b hb H' s=>k b hb H' (s1.trans s)⟩⟩
theorem di {f:FB} (h:VC X Z a f):VC X Z (.UnaryOp .Not a pos) (Td f) :=
 .mk fun tm=>PT.weak (JP (h tm)) fun σ H Q ⟨ρ,O,q,I,hf,k⟩=>⟨ρ,O,_,I,hf,fun c hc H1 s1=>k _ hc H1 s1⟩
def Iu (f g:FP):FP:=fun ρ Q=>f ρ fun r=>match r with
 | .vw (.bl true)=>g ρ Q
 | .vw (.bl false)=>Q (.vw (.bl false))
 | _=>False
def Te (f g:FP):FP:=fun ρ Q=>f ρ fun r=>match r with
 | .vw (.bl true)=>Q (.vw (.bl true))
 | .vw (.bl false)=>g ρ Q
 | _=>False
def Oy (f:FP):FP:=fun ρ Q=>f ρ fun r=>match r with
 | .vw (.bl c)=>Q (.vw (.bl (!c)))
 | _=>False
theorem lL {op} {f:FP} (h:VP X Z a f):VP X Z (.BoolOp op [a] pos) f:=.mk fun tm=>JQ (h tm)
theorem oi {rest:List Expr} {f g:FP} (h:VP X Z a f) (h':VP X Z (.BoolOp .And (b :: rest) pos) g):VP X Z (.BoolOp .And (a :: b :: rest) pos) (Iu f g) :=
 .mk fun tm=>PE.weak (JR (h tm) (h' tm)) fun σ H Q ⟨ρ,O,q,I,hf,k⟩=>⟨ρ,O,_,I,hf,fun r hr v H1 s1 z=>by
  split at hr
  · have e:=z.2; simp only [At] at e
    exact ⟨true,e,by rw [if_pos rfl]; exact ⟨ρ,O,q,I.same s1,hr,fun b hb v H' s=>k b hb v H' (s1.trans s)⟩⟩
  · have e:=z.2; simp only [At] at e
    exact ⟨false,e,by rw [if_neg qa]; exact k _ hr _ H1 s1 ⟨I.same s1,cM⟩⟩
  · exact hr.elim⟩
theorem yI {rest:List Expr} {f g:FP} (h:VP X Z a f) (h':VP X Z (.BoolOp .Or (b :: rest) pos) g):VP X Z (.BoolOp .Or (a :: b :: rest) pos) (Te f g) :=
 .mk fun tm=>PE.weak (NG (h tm) (h' tm)) fun σ H Q ⟨ρ,O,q,I,hf,k⟩=>⟨ρ,O,_,I,hf,fun r hr v H1 s1 z=>by
  split at hr
  · have e:=z.2; simp only [At] at e
    exact ⟨true,e,by rw [if_pos rfl]; exact k _ hr _ H1 s1 ⟨I.same s1,cM⟩⟩
  · have e:=z.2; simp only [At] at e
    exact ⟨false,e,by rw [if_neg qa]; exact ⟨ρ,O,q,I.same s1,hr,fun b hb v H' s=>k b hb v H' (s1.trans s)⟩⟩
  · exact hr.elim⟩
theorem KL {f:FP} (h:VP X Z a f):VP X Z (.UnaryOp .Not a pos) (Oy f) :=
 .mk fun tm=>PE.weak (JS (h tm)) fun σ H Q ⟨ρ,O,q,I,hf,k⟩=>⟨ρ,O,_,I,hf,fun r hr v H1 s1 z=>by
  split at hr
  · have e:=z.2; simp only [At] at e
    exact ⟨_,e,k _ hr _ H1 s1 ⟨I.same s1,cM⟩⟩
  · exact hr.elim⟩
def Cf:FA:=fun _ Q=>Q []
def uJ (f:FE) (g:FA):FA:=fun ρ Q=>f ρ fun t=>g ρ fun ts=>Q (t :: ts)
theorem ai:VA X Z [] Cf:=.mk fun tm=>PA.weak cX fun σ H Q ⟨ρ,O,q,I,hf,k⟩=>k _ hf [] H (aK.refl H) aG.nil
theorem ae {f:FE} {g:FA} (h:VE X Z e f) (h':VA X Z es g) (hs:starEach (e :: es) X.env=(false,eval e X.env) :: starEach es X.env:=by rfl):VA X Z (e :: es) (uJ f g) :=
 .mk fun tm=>PA.weak (bw (h tm) (h' tm) hs) fun σ H Q ⟨ρ,O,q,I,hf,k⟩=>⟨ρ,O,_,I,hf,fun t ht v H1 s1 a1=>⟨ρ,O,_,I.same s1,ht,fun ts gC vs H2 s2 a2=>k _ gC _ H2 (s1.trans s2) (aG.cons (a1.same s2) a2)⟩⟩
theorem aw:EU X Z [] Cf:=.mk fun tm=>PA.weak cX fun σ H Q ⟨ρ,O,q,I,hf,k⟩=>k _ hf [] H (aK.refl H) .nil
theorem ao {f:FE} {g:FA} (h:VR X Z e f) (h':EU X Z es g) (hs:starEach (e :: es) X.env=(false,eval e X.env) :: starEach es X.env:=by rfl):EU X Z (e :: es) (uJ f g) :=
 .mk fun tm=>PA.weak (bw (h tm) (h' tm) hs) fun σ H Q ⟨ρ,O,q,I,hf,k⟩=>⟨ρ,O,_,I,hf,fun t ht v H1 s1 a1=>⟨ρ,O,_,I.same s1,ht,fun ts gC vs H2 s2 a2=>k _ gC _ H2 (s1.trans s2) (.cons (a1.same s2) a2)⟩⟩
def Tf (g:FA):FP:=fun ρ Q=>g ρ fun ts=>ts.length≤sizeLine∧Q (.vw (.tup ts))
def Tg (g:FA):FP:=fun ρ Q=>g ρ fun ts=>ts.length≤sizeLine∧Q (.fr (.lst ts))
theorem bc {g:FA} {x1} (h:VA X Z es g):VP X Z (.Tuple es x1 pos) (Tf g) :=
 .mk fun tm=>PE.weak (Kl (h tm)) fun σ H Q ⟨ρ,O,q,I,hf,k⟩=>⟨ρ,O,_,I,hf,fun ts gC vs H1 s1 a1=>⟨by rw [a1.length]; exact gC.1,fun p hp=>k _ gC.2 _ _ (s1.trans (aM hp)) ⟨(I.same s1).same (aM hp),br (dF.of aT) (a1.same (aM hp))⟩⟩⟩
theorem bO {g:FA} (h:VA X Z es g):VP X Z (.List es pos) (Tg g) :=
 .mk fun tm=>PE.weak (Km (h tm)) fun σ H Q ⟨ρ,O,q,I,hf,k⟩=>⟨ρ,O,_,I,hf,fun ts gC vs H1 s1 a1=>⟨by rw [a1.length]; exact gC.1,fun p hp=>k _ gC.2 _ _ (s1.trans (aM hp)) ((I.same s1).Cd hp a1)⟩⟩
end
mutual
def eqT:T→T→Bool
 | .bu,.bu=>true
 | .bl a,.bl b=>a == b
 | .bl a,.int b=>(if a then 1 else 0) == b
 | .int a,.bl b=>a == (if b then 1 else 0)
 | .int a,.int b=>a == b
 | .str a,.str b=>a == b
 | .tup a,.tup b=>eR a b
 | .lst a,.lst b=>eR a b
 | _,_=>false
def eR:List T→List T→Bool
 | [],[]=>true
 | a :: as,b :: bs=>eqT a b && eR as bs
 | _,_=>false
end
mutual
def plainT:T→Bool
 | .tup l=>bT l
 | .lst l=>bT l
 | .dk _ _=>false
 | .dt _ _=>false
 | .df _ _ _=>false
 | .dz _ _ _=>false
 | .kt _=>false
 | .ins _ _ _=>false
 | .pin _ _=>false
 | .ob _=>false
 | .ty _=>false
 | _=>true
def bT:List T→Bool
 | []=>true
 | t :: ts=>plainT t && bT ts
end
mutual
def dep:T→Nat
 | .tup l=>lM l+1
 | .lst l=>lM l+1
 | _=>0
def lM:List T→Nat
 | []=>0
 | t :: ts=>max (dep t) (lM ts)
end
mutual
theorem iP:∀ (t:T),plainT t=true→eqT t t=true
 | .bu,_=>by simp [eqT]
 | .bl _,_=>by simp [eqT]
 | .int _,_=>by simp [eqT]
 | .str _,_=>by simp [eqT]
 | .tup l,h=>by simp only [plainT] at h; simp only [eqT]; exact lN l h
 | .lst l,h=>by simp only [plainT] at h; simp only [eqT]; exact lN l h
 | .dk _ _,h=>by simp only [plainT] at h; cases h
 | .dt _ _,h=>by simp only [plainT] at h; cases h
 | .df _ _ _,h=>by simp only [plainT] at h; cases h
 | .dz _ _ _,h=>by simp only [plainT] at h; cases h
 | .kt _,h=>by simp only [plainT] at h; cases h
 | .ins _ _ _,h=>by simp only [plainT] at h; cases h
 | .pin _ _,h=>by simp only [plainT] at h; cases h
 | .ob _,h=>by simp only [plainT] at h; cases h
 | .ty _,h=>by simp only [plainT] at h; cases h
theorem lN:∀ (t:List T),bT t=true→eR t t=true
 | [],_=>by simp [eR]
 | t :: ts,h=>by
   simp only [bT,iE] at h
   simp only [eR,iE]
   exact ⟨iP t h.1,lN ts h.2⟩
end
theorem iQ:∀ {a b:List T},eR a b=true→a.length=b.length
 | [],[],_=>rfl
 | a :: as,b :: bs,h=>by simp only [eR,iE] at h; simp [iQ h.2]
 | [],_ :: _,h=>by simp [eR] at h
 | _ :: _,[],h=>by simp [eR] at h
theorem iR:∀ {a b:List T},a.length=b.length→eR a b=(List.range a.length).all fun j=>match a[j]?,b[j]? with
  | some x,some y=>eqT x y
  | _,_=>true
 | [],[],_=>by simp [eR]
 | a :: as,b :: bs,h=>by
   have ih:=iR (a:=as) (b:=bs) (by simpa using h)
   simp only [eR]
   rw [ih,Jz,List.range_succ_eq_map,uo,List.all_map]
   rfl
 | [],_ :: _,h=>by simp at h
 | _ :: _,[],h=>by simp at h
theorem oj:∀ {a b:List T},eR a b=((List.range (min a.length b.length)).all (fun j=>match a[j]?,b[j]? with
  | some x,some y=>eqT x y
  | _,_=>true) && a.length == b.length)
 | a,b=>by
   by_cases h:a.length=b.length
   · rw [iR h,h,Nat.min_self]; simp
   · have e:(a.length == b.length)=false:=by simpa using h
     rw [e,Bool.and_false]
     cases q:eR a b with
     | false=>rfl
     | true=>exact absurd (iQ q) h
section
variable {X:Cx} {pins:List (Addr×Obj)} {σ:St} {H:Hp} {s:Shared} {O O':List Addr}
theorem uK (I:Inv X pins σ H s) {a:Addr} {xs ys:List V} (h:eJ X.K H a xs) (h':dF X.K H a ys):False:=by
 obtain ⟨aP,_,p,_⟩:=I.list h
 obtain ⟨eA,_,p2,_⟩:=I.tuple h'
 obtain ⟨o,n,e,c,_⟩:=p
 obtain ⟨o2,e2,c2,_⟩:=p2
 rw [e] at e2
 cases e2
 rw [c] at c2
 injection c2 with c2
 exact absurd c2 (by decide)
mutual
theorem At.inj (I:Inv X pins σ H s):∀ {t u:T} {v:V},plainT t=true→plainT u=true→At X.K H O t v→At X.K H O' u v→t=u
 | .bu,u,v,_,pu,h,h'=>by
   simp only [At] at h; subst h
   cases u <;> simp only [At] at h' <;> first | rfl | (simp only [plainT] at pu; cases pu; done) | (obtain ⟨_,_,e,_⟩:=h'; cases e) | (cases h'; done)
 | .bl b,u,v,_,pu,h,h'=>by
   simp only [At] at h; subst h
   cases u <;> simp only [At] at h' <;> first | (simp only [plainT] at pu; cases pu; done) | (obtain ⟨_,_,e,_⟩:=h'; cases e; done) | (cases h'; rfl) | (cases h'; done)
 | .int b,u,v,_,pu,h,h'=>by
   simp only [At] at h; subst h
   cases u <;> simp only [At] at h' <;> first | (simp only [plainT] at pu; cases pu; done) | (obtain ⟨_,_,e,_⟩:=h'; cases e; done) | (cases h'; rfl) | (cases h'; done)
 | .str b,u,v,_,pu,h,h'=>by
   simp only [At] at h; subst h
   cases u <;> simp only [At] at h' <;> first | (simp only [plainT] at pu; cases pu; done) | (obtain ⟨_,_,e,_⟩:=h'; cases e; done) | (cases h'; rfl) | (cases h'; done)
 | .dk _ _,_,_,p,_,_,_=>by simp only [plainT] at p; cases p
 | .dt _ _,_,_,p,_,_,_=>by simp only [plainT] at p; cases p
 | .df _ _ _,_,_,p,_,_,_=>by simp only [plainT] at p; cases p
 | .dz _ _ _,_,_,p,_,_,_=>by simp only [plainT] at p; cases p
 | .kt _,_,_,p,_,_,_=>by simp only [plainT] at p; cases p
 | .ins _ _ _,_,_,p,_,_,_=>by simp only [plainT] at p; cases p
 | .pin _ _,_,_,p,_,_,_=>by simp only [plainT] at p; cases p
 | .ob _,_,_,p,_,_,_=>by simp only [plainT] at p; cases p
 | .ty _,_,_,p,_,_,_=>by simp only [plainT] at p; cases p
 | .tup ts,u,v,p,pu,h,h'=>by
   simp only [At] at h
   obtain ⟨a,vs,rfl,h1,h2⟩:=h
   cases u with
   | tup us =>
     simp only [At] at h'
     obtain ⟨b,ws,e,g1,g2⟩:=h'
     cases e
     cases I.lC h1 g1
     simp only [plainT] at p pu
     rw [aG.inj I p pu h2 g2]
   | lst us =>
     simp only [At] at h'
     obtain ⟨b,ws,e,g1,g2⟩:=h'
     cases e
     exact (uK I g1.sq h1).elim
   | dk _ _=>simp only [plainT] at pu; cases pu
   | dt _ _=>simp only [plainT] at pu; cases pu
   | df _ _ _=>simp only [plainT] at pu; cases pu
   | dz _ _ _=>simp only [plainT] at pu; cases pu
   | kt _=>simp only [plainT] at pu; cases pu
   | ins _ _ _=>simp only [plainT] at pu; cases pu
   | pin _ _=>simp only [plainT] at pu; cases pu
   | ob _=>simp only [plainT] at pu; cases pu
   | ty _=>simp only [plainT] at pu; cases pu
   | _=>simp only [At] at h'; cases h'
 | .lst ts,u,v,p,pu,h,h'=>by
   simp only [At] at h
   obtain ⟨a,vs,rfl,h1,h2⟩:=h
   cases u with
   | lst us =>
     simp only [At] at h'
     obtain ⟨b,ws,e,g1,g2⟩:=h'
     cases e
     cases I.kq h1.sq g1.sq
     simp only [plainT] at p pu
     rw [aG.inj I p pu h2 g2]
   | tup us =>
     simp only [At] at h'
     obtain ⟨b,ws,e,g1,g2⟩:=h'
     cases e
     exact (uK I h1.sq g1).elim
   | dk _ _=>simp only [plainT] at pu; cases pu
   | dt _ _=>simp only [plainT] at pu; cases pu
   | df _ _ _=>simp only [plainT] at pu; cases pu
   | dz _ _ _=>simp only [plainT] at pu; cases pu
   | kt _=>simp only [plainT] at pu; cases pu
   | ins _ _ _=>simp only [plainT] at pu; cases pu
   | pin _ _=>simp only [plainT] at pu; cases pu
   | ob _=>simp only [plainT] at pu; cases pu
   | ty _=>simp only [plainT] at pu; cases pu
   | _=>simp only [At] at h'; cases h'
theorem aG.inj (I:Inv X pins σ H s):∀ {ts us:List T} {vs:List V},bT ts=true→bT us=true→aG X.K H O ts vs→aG X.K H O' us vs→ts=us
 | [],[],_,_,_,_,_=>rfl
 | [],_ :: _,_,_,_,h,h'=>by simp only [aG] at h h'; subst h; obtain ⟨_,_,e,_⟩:=h'; cases e
 | _ :: _,[],_,_,_,h,h'=>by simp only [aG] at h h'; subst h'; obtain ⟨_,_,e,_⟩:=h; cases e
 | t :: ts,u :: us,_,p,pu,h,h'=>by
   simp only [aG] at h h'
   simp only [bT,iE] at p pu
   obtain ⟨v,r,rfl,h1,h2⟩:=h
   obtain ⟨v',r',e,g1,g2⟩:=h'
   cases e
   rw [At.inj I p.1 pu.1 h1 g1,aG.inj I p.2 pu.2 h2 g2]
end
theorem gM:∀ {ts:List T} {j:Nat} {x:T},ts[j]?=some x→dep x≤lM ts
 | [],_,_,h=>by simp at h
 | t :: ts,0,x,h=>by simp at h; subst h; simp only [lM]; omega
 | t :: ts,j+1,x,h=>by have:=gM (ts:=ts) (j:=j) (x:=x) (by simpa using h); simp only [lM]; omega
theorem bA:∀ {ts:List T} {j:Nat} {x:T},bT ts=true→ts[j]?=some x→plainT x=true
 | [],_,_,_,h=>by simp at h
 | t :: ts,0,x,p,h=>by simp at h; subst h; simp only [bT,iE] at p; exact p.1
 | t :: ts,j+1,x,p,h=>by simp only [bT,iE] at p; exact bA (ts:=ts) (j:=j) p.2 (by simpa using h)
theorem in1_units (A:Around):A.in1.units=A.units+1:=by
 first | rfl | simp [Around.in1,Around.units]
theorem gi (I:Inv X pins σ H s) {ts us:List T} {vs ws:List V} {aP eA:List Value} {A:Around} (h1:aG X.K H O ts vs) (h2:aG X.K H O' us ws) (r1:Vals vs aP) (r2:Vals ws eA)
  (key:∀ (j:Nat) x y v w u u',ts[j]?=some x→us[j]?=some y→At X.K H O x v→At X.K H O' y w→RelV v u→RelV w u'→SeqAt.EqAt A s u u' (eqT x y)) :
  ∀ (j:Nat) (g1:j < aP.toArray.size) (g2:j < eA.toArray.size),SeqAt.EqAt A s aP.toArray[j] eA.toArray[j] (match ts[j]?,us[j]? with
   | some x,some y=>eqT x y
   | _,_=>true):=fun j g1 g2=>by
 have l1:=h1.length
 have l2:=h2.length
 have m1:=r1.length
 have m2:=r2.length
 simp only [gD] at g1 g2
 have e1:ts[j]?=some (ts[j]'(by omega)):=by simp
 have e2:us[j]?=some (us[j]'(by omega)):=by simp
 obtain ⟨v,a1,a2⟩:=h1.get e1
 obtain ⟨w,b1,b2⟩:=h2.get e2
 obtain ⟨u,c1,c2⟩:=r1.get a1
 obtain ⟨u',d1,d2⟩:=r2.get b1
 have f1:aP.toArray[j]=u:=by rw [kg (by omega)] at c1; simpa using c1
 have f2:eA.toArray[j]=u':=by rw [kg (by omega)] at d1; simpa using d1
 rw [f1,f2,e1,e2]
 exact key j _ _ v w u u' e1 e2 a2 b2 c2 d2
theorem jX {O:List Addr} (I:Inv X pins σ H s) {u:T} {w:V} {b:Value} (pu:plainT u=true) (hw:At X.K H O u w) (r:RelV w b):(u = .bu∧b = .none)∨(∃ c,u = .bl c∧b = .bool c)∨(∃ c t,u = .int c∧b = .int c t)∨(∃ c t,u = .str c∧b = .str c t)∨(∃ l p xs,u = .tup l∧b = .ref p∧s.heap.IsTuple p xs)∨∃ l p xs,u = .lst l∧b = .ref p∧s.heap.IsList p xs:=by
 cases u with
 | tup l=>simp only [At] at hw; obtain ⟨p,ws,rfl,q,_⟩:=hw; cases r; obtain ⟨_,_,p1,_⟩:=I.tuple q; exact .inr (.inr (.inr (.inr (.inl ⟨l,p,_,rfl,rfl,p1⟩))))
 | lst l=>simp only [At] at hw; obtain ⟨p,ws,rfl,q,_⟩:=hw; cases r; obtain ⟨_,_,p1,_⟩:=I.list q.sq; exact .inr (.inr (.inr (.inr (.inr ⟨l,p,_,rfl,rfl,p1.isList⟩))))
 | bu=>simp only [At] at hw; subst hw; cases r; exact .inl ⟨rfl,rfl⟩
 | bl c=>simp only [At] at hw; subst hw; cases r; exact .inr (.inl ⟨c,rfl,rfl⟩)
 | int c=>simp only [At] at hw; subst hw; obtain ⟨t,rfl⟩:=r; exact .inr (.inr (.inl ⟨c,t,rfl,rfl⟩))
 | str c=>simp only [At] at hw; subst hw; obtain ⟨t,rfl⟩:=r; exact .inr (.inr (.inr (.inl ⟨c,t,rfl,rfl⟩)))
 | _=>simp only [plainT] at pu; cases pu
theorem sy (I:Inv X pins σ H s):∀ (n:Nat) (t u:T) (v w:V) (a b:Value) (A:Around),dep t≤n→A.units+n < cLine→plainT t=true→plainT u=true→At X.K H O t v→At X.K H O' u w→RelV v a→RelV w b→SeqAt.EqAt A s a b (eqT t u):=by
 intro n
 induction n with
 | zero =>
   intro t u v w a b A hd hu pt pu ht hw rv rw'
   have cJ:A.units < cLine:=by omega
   rcases jX I pt ht rv with ⟨rfl,rfl⟩ | ⟨d,rfl,rfl⟩ | ⟨d,t',rfl,rfl⟩ | ⟨d,t',rfl,rfl⟩ | ⟨l,p,xs,rfl,_⟩ | ⟨l,p,xs,rfl,_⟩
   · rcases jX I pu hw rw' with ⟨rfl,rfl⟩ | ⟨c,rfl,rfl⟩ | ⟨c,t,rfl,rfl⟩ | ⟨c,t,rfl,rfl⟩ | ⟨l,p,xs,rfl,rfl,h⟩ | ⟨l,p,xs,rfl,rfl,h⟩ <;> simp only [eqT]
     · exact SeqAt.EqAt.same _
     · exact SeqAt.EqAt.none_bool c
     · exact SeqAt.EqAt.none_int c t
     · exact SeqAt.EqAt.none_str c t
     · exact SeqAt.EqAt.none_tuple h cJ
     · exact SeqAt.EqAt.none_list h cJ
   · rcases jX I pu hw rw' with ⟨rfl,rfl⟩ | ⟨c,rfl,rfl⟩ | ⟨c,t,rfl,rfl⟩ | ⟨c,t,rfl,rfl⟩ | ⟨l,p,xs,rfl,rfl,h⟩ | ⟨l,p,xs,rfl,rfl,h⟩ <;> simp only [eqT]
     · exact SeqAt.EqAt.bool_none d
     · exact SeqAt.EqAt.bool_bool d c
     · exact SeqAt.EqAt.bool_int d c t
     · exact SeqAt.EqAt.bool_str d c t
     · exact SeqAt.EqAt.bool_tuple d h cJ
     · exact SeqAt.EqAt.bool_list d h cJ
   · rcases jX I pu hw rw' with ⟨rfl,rfl⟩ | ⟨c,rfl,rfl⟩ | ⟨c,t,rfl,rfl⟩ | ⟨c,t,rfl,rfl⟩ | ⟨l,p,xs,rfl,rfl,h⟩ | ⟨l,p,xs,rfl,rfl,h⟩ <;> simp only [eqT]
     · exact SeqAt.EqAt.int_none d t'
     · exact SeqAt.EqAt.int_bool d t' c
     · exact SeqAt.EqAt.int_int d t' c t
     · exact SeqAt.EqAt.int_str d t' c t
     · exact SeqAt.EqAt.int_tuple d t' h cJ
     · exact SeqAt.EqAt.int_list d t' h cJ
   · rcases jX I pu hw rw' with ⟨rfl,rfl⟩ | ⟨c,rfl,rfl⟩ | ⟨c,t,rfl,rfl⟩ | ⟨c,t,rfl,rfl⟩ | ⟨l,p,xs,rfl,rfl,h⟩ | ⟨l,p,xs,rfl,rfl,h⟩ <;> simp only [eqT]
     · exact SeqAt.EqAt.str_none d t'
     · exact SeqAt.EqAt.str_bool d t' c
     · exact SeqAt.EqAt.str_int d t' c t
     · exact SeqAt.EqAt.str_str d t' c t
     · exact SeqAt.EqAt.str_tuple d t' h cJ
     · exact SeqAt.EqAt.str_list d t' h cJ
   · simp only [dep] at hd; omega
   · simp only [dep] at hd; omega
 | succ n ih =>
   intro t u v w a b A hd hu pt pu ht hw rv rw'
   by_cases h0:dep t≤n
   · exact ih t u v w a b A h0 (by omega) pt pu ht hw rv rw'
   · have cJ:A.units < cLine:=by omega
     have v_:A.in1.units+n < cLine:=by rw [in1_units]; omega
     cases t with
     | tup l =>
       simp only [plainT] at pt
       simp only [dep] at hd
       have Th:=ht
       simp only [At] at ht
       obtain ⟨p,vs,rfl,h1,h2⟩:=ht
       cases rv
       obtain ⟨aP,r1,p1,_⟩:=I.tuple h1
       cases u with
       | tup l' =>
         have Ti:=hw
         simp only [At] at hw
         obtain ⟨p',ws,rfl,g1,g2⟩:=hw
         cases rw'
         simp only [plainT] at pu
         by_cases e:p=p'
         · subst e
           have:=At.inj I (t:=.tup l) (u:=.tup l') (by simp only [plainT]; exact pt) (by simp only [plainT]; exact pu) Th Ti
           rw [← this,iP _ (by simp only [plainT]; exact pt)]
           exact SeqAt.EqAt.same _
         · obtain ⟨eA,r2,p2,_⟩:=I.tuple g1
           refine SeqAt.EqAt.of_refs e ?_
           have:=SeqAt.RcAt.tuples (A:=A) p1 p2 cJ (gi I h2 g2 r1 r2 fun j x y v w u u' e1 e2 a1 a2 b1 b2=>ih x y v w u u' A.in1 (mD (gM e1) (by omega)) v_ (bA pt e1) (bA pu e2) a1 a2 b1 b2)
           simp only [eqT]
           rw [oj]
           have e1:=r1.length
           have e2:=r2.length
           have e3:=h2.length
           have e4:=g2.length
           simp only [gD] at this
           rw [← e1,← e2,e3,e4] at this
           exact this
       | _ =>
         rcases jX I pu hw rw' with ⟨e,rfl⟩ | ⟨c,e,rfl⟩ | ⟨c,t,e,rfl⟩ | ⟨c,t,e,rfl⟩ | ⟨l,p,xs,e,rfl,h⟩ | ⟨l,p,xs,e,rfl,h⟩ <;> cases e <;> simp only [eqT]
         all_goals first | exact SeqAt.EqAt.tuple_none p1 cJ | exact SeqAt.EqAt.tuple_bool _ p1 cJ | exact SeqAt.EqAt.tuple_int _ _ p1 cJ | exact SeqAt.EqAt.tuple_str _ _ p1 cJ | exact SeqAt.EqAt.tuple_list p1 (by assumption) cJ
     | lst l =>
       simp only [plainT] at pt
       simp only [dep] at hd
       have Th:=ht
       simp only [At] at ht
       obtain ⟨p,vs,rfl,h1,h2⟩:=ht
       cases rv
       obtain ⟨aP,r1,p1,_⟩:=I.list h1.sq
       cases u with
       | lst l' =>
         have Ti:=hw
         simp only [At] at hw
         obtain ⟨p',ws,rfl,g1,g2⟩:=hw
         cases rw'
         simp only [plainT] at pu
         by_cases e:p=p'
         · subst e
           have:=At.inj I (t:=.lst l) (u:=.lst l') (by simp only [plainT]; exact pt) (by simp only [plainT]; exact pu) Th Ti
           rw [← this,iP _ (by simp only [plainT]; exact pt)]
           exact SeqAt.EqAt.same _
         · obtain ⟨eA,r2,p2,_⟩:=I.list g1.sq
           refine SeqAt.EqAt.of_refs e ?_
           have e1:=r1.length
           have e2:=r2.length
           have e3:=h2.length
           have e4:=g2.length
           by_cases hl:l.length=l'.length
           · have:=SeqAt.RcAt.lists (A:=A) p1.isList p2.isList (by simp only [gD]; omega) cJ (gi I h2 g2 r1 r2 fun j x y v w u u' e1 e2 a1 a2 b1 b2=>ih x y v w u u' A.in1 (mD (gM e1) (by omega)) v_ (bA pt e1) (bA pu e2) a1 a2 b1 b2)
             simp only [eqT]
             rw [iR hl]
             simp only [gD] at this
             rw [← e1,e3] at this
             exact this
           · simp only [eqT]
             have:eR l l'=false:=by
              cases q:eR l l' with
              | false=>rfl
              | true=>exact absurd (iQ q) hl
             rw [this]
             exact SeqAt.RcAt.lists_lengths p1.isList p2.isList (by simp only [gD]; rw [bne_iff_ne]; omega) cJ
       | _ =>
         rcases jX I pu hw rw' with ⟨e,rfl⟩ | ⟨c,e,rfl⟩ | ⟨c,t,e,rfl⟩ | ⟨c,t,e,rfl⟩ | ⟨l,p,xs,e,rfl,h⟩ | ⟨l,p,xs,e,rfl,h⟩ <;> cases e <;> simp only [eqT]
         all_goals first | exact SeqAt.EqAt.list_none p1.isList cJ | exact SeqAt.EqAt.list_bool _ p1.isList cJ | exact SeqAt.EqAt.list_int _ _ p1.isList cJ | exact SeqAt.EqAt.list_str _ _ p1.isList cJ | exact SeqAt.EqAt.list_tuple p1.isList (by assumption) cJ
     | _=>exact absurd (km n) h0
end
section
variable {X:Cx} {pins:List (Addr×Obj)} {σ:St} {H:Hp} {s:Shared} {O O':List Addr}
theorem KN (I:Inv X pins σ H s) (t u:T) (v w:V) (a b:Value) (A:Around) (hd:dep t≤100) (hu:A.units+101 < cLine) (pt:plainT t=true) (pu:plainT u=true) (ht:At X.K H O t v) (hw:At X.K H O' u w) (rv:RelV v a) (rw':RelV w b):SeqAt.RcAt A s a b (eqT t u):=by
 have cJ:A.units < cLine:=by omega
 have v_:A.in1.units+100 < cLine:=by rw [in1_units]; omega
 cases t with
 | bu =>
   simp only [At] at ht; subst ht; cases rv
   cases u with
   | bu =>
     simp only [At] at hw; subst hw; cases rw'
     simp only [eqT]
     exact SeqAt.RcAt.none_none
   | bl c =>
     simp only [At] at hw; subst hw; cases rw'
     simp only [eqT]
     exact SeqAt.RcAt.none_bool c
   | int c =>
     simp only [At] at hw; subst hw; obtain ⟨t2,rfl⟩:=rw'
     simp only [eqT]
     exact SeqAt.RcAt.none_int c t2
   | str c =>
     simp only [At] at hw; subst hw; obtain ⟨t2,rfl⟩:=rw'
     simp only [eqT]
     exact SeqAt.RcAt.none_str c t2
   | tup l=>simp only [At] at hw; obtain ⟨p,ws,rfl,q,_⟩:=hw; cases rw'; obtain ⟨_,_,p1,_⟩:=I.tuple q; simp only [eqT]; exact SeqAt.RcAt.none_tuple p1 cJ
   | lst l=>simp only [At] at hw; obtain ⟨p,ws,rfl,q,_⟩:=hw; cases rw'; obtain ⟨_,_,p1,_⟩:=I.list q.sq; simp only [eqT]; exact SeqAt.RcAt.none_list p1.isList cJ
   | _=>simp only [plainT] at pu; cases pu
 | bl d =>
   simp only [At] at ht; subst ht; cases rv
   cases u with
   | bu =>
     simp only [At] at hw; subst hw; cases rw'
     simp only [eqT]
     exact SeqAt.RcAt.bool_none d
   | bl c =>
     simp only [At] at hw; subst hw; cases rw'
     simp only [eqT]
     exact SeqAt.RcAt.bool_bool d c
   | int c =>
     simp only [At] at hw; subst hw; obtain ⟨t2,rfl⟩:=rw'
     simp only [eqT]
     exact SeqAt.RcAt.bool_int d c t2
   | str c =>
     simp only [At] at hw; subst hw; obtain ⟨t2,rfl⟩:=rw'
     simp only [eqT]
     exact SeqAt.RcAt.bool_str d c t2
   | tup l=>simp only [At] at hw; obtain ⟨p,ws,rfl,q,_⟩:=hw; cases rw'; obtain ⟨_,_,p1,_⟩:=I.tuple q; simp only [eqT]; exact SeqAt.RcAt.bool_tuple d p1 cJ
   | lst l=>simp only [At] at hw; obtain ⟨p,ws,rfl,q,_⟩:=hw; cases rw'; obtain ⟨_,_,p1,_⟩:=I.list q.sq; simp only [eqT]; exact SeqAt.RcAt.bool_list d p1.isList cJ
   | _=>simp only [plainT] at pu; cases pu
 | int d =>
   simp only [At] at ht; subst ht; obtain ⟨t1,rfl⟩:=rv
   cases u with
   | bu =>
     simp only [At] at hw; subst hw; cases rw'
     simp only [eqT]
     exact SeqAt.RcAt.int_none d t1
   | bl c =>
     simp only [At] at hw; subst hw; cases rw'
     simp only [eqT]
     exact SeqAt.RcAt.int_bool d t1 c
   | int c =>
     simp only [At] at hw; subst hw; obtain ⟨t2,rfl⟩:=rw'
     simp only [eqT]
     exact SeqAt.RcAt.int_int d t1 c t2
   | str c =>
     simp only [At] at hw; subst hw; obtain ⟨t2,rfl⟩:=rw'
     simp only [eqT]
     exact SeqAt.RcAt.int_str d t1 c t2
   | tup l=>simp only [At] at hw; obtain ⟨p,ws,rfl,q,_⟩:=hw; cases rw'; obtain ⟨_,_,p1,_⟩:=I.tuple q; simp only [eqT]; exact SeqAt.RcAt.int_tuple d t1 p1 cJ
   | lst l=>simp only [At] at hw; obtain ⟨p,ws,rfl,q,_⟩:=hw; cases rw'; obtain ⟨_,_,p1,_⟩:=I.list q.sq; simp only [eqT]; exact SeqAt.RcAt.int_list d t1 p1.isList cJ
   | _=>simp only [plainT] at pu; cases pu
 | str d =>
   simp only [At] at ht; subst ht; obtain ⟨t1,rfl⟩:=rv
   cases u with
   | bu =>
     simp only [At] at hw; subst hw; cases rw'
     simp only [eqT]
     exact SeqAt.RcAt.str_none d t1
   | bl c =>
     simp only [At] at hw; subst hw; cases rw'
     simp only [eqT]
     exact SeqAt.RcAt.str_bool d t1 c
   | int c =>
     simp only [At] at hw; subst hw; obtain ⟨t2,rfl⟩:=rw'
     simp only [eqT]
     exact SeqAt.RcAt.str_int d t1 c t2
   | str c =>
     simp only [At] at hw; subst hw; obtain ⟨t2,rfl⟩:=rw'
     simp only [eqT]
     exact SeqAt.RcAt.str_str d t1 c t2
   | tup l=>simp only [At] at hw; obtain ⟨p,ws,rfl,q,_⟩:=hw; cases rw'; obtain ⟨_,_,p1,_⟩:=I.tuple q; simp only [eqT]; exact SeqAt.RcAt.str_tuple d t1 p1 cJ
   | lst l=>simp only [At] at hw; obtain ⟨p,ws,rfl,q,_⟩:=hw; cases rw'; obtain ⟨_,_,p1,_⟩:=I.list q.sq; simp only [eqT]; exact SeqAt.RcAt.str_list d t1 p1.isList cJ
   | _=>simp only [plainT] at pu; cases pu
 | tup l =>
   simp only [plainT] at pt
   simp only [dep] at hd
   simp only [At] at ht
   obtain ⟨p,vs,rfl,h1,h2⟩:=ht
   cases rv
   obtain ⟨aP,r1,p1,_⟩:=I.tuple h1
   cases u with
   | bu =>
     simp only [At] at hw; subst hw; cases rw'
     simp only [eqT]
     exact SeqAt.RcAt.tuple_none p1 cJ
   | bl c =>
     simp only [At] at hw; subst hw; cases rw'
     simp only [eqT]
     exact SeqAt.RcAt.tuple_bool c p1 cJ
   | int c =>
     simp only [At] at hw; subst hw; obtain ⟨t2,rfl⟩:=rw'
     simp only [eqT]
     exact SeqAt.RcAt.tuple_int c t2 p1 cJ
   | str c =>
     simp only [At] at hw; subst hw; obtain ⟨t2,rfl⟩:=rw'
     simp only [eqT]
     exact SeqAt.RcAt.tuple_str c t2 p1 cJ
   | tup l' =>
     simp only [At] at hw
     obtain ⟨p',ws,rfl,g1,g2⟩:=hw
     cases rw'
     obtain ⟨eA,r2,p2,_⟩:=I.tuple g1
     simp only [eqT]
     simp only [plainT] at pu
     have e1:=r1.length
     have e2:=r2.length
     have e3:=h2.length
     have e4:=g2.length
     have:=SeqAt.RcAt.tuples (A:=A) p1 p2 cJ (gi I h2 g2 r1 r2 fun j x y v w u u' e1 e2 a1 a2 b1 b2=>sy I 100 x y v w u u' A.in1 (mD (gM e1) (by omega)) v_ (bA pt e1) (bA pu e2) a1 a2 b1 b2)
     simp only [gD] at this
     rw [← e1,← e2,e3,e4] at this
     rw [oj]
     exact this
   | lst l' =>
     simp only [At] at hw
     obtain ⟨p',ws,rfl,g1,g2⟩:=hw
     cases rw'
     obtain ⟨eA,r2,p2,_⟩:=I.list g1.sq
     simp only [eqT]
     exact SeqAt.RcAt.tuple_list p1 p2.isList cJ
   | _=>simp only [plainT] at pu; cases pu
 | lst l =>
   simp only [plainT] at pt
   simp only [dep] at hd
   simp only [At] at ht
   obtain ⟨p,vs,rfl,h1,h2⟩:=ht
   cases rv
   obtain ⟨aP,r1,p1,_⟩:=I.list h1.sq
   cases u with
   | bu =>
     simp only [At] at hw; subst hw; cases rw'
     simp only [eqT]
     exact SeqAt.RcAt.list_none p1.isList cJ
   | bl c =>
     simp only [At] at hw; subst hw; cases rw'
     simp only [eqT]
     exact SeqAt.RcAt.list_bool c p1.isList cJ
   | int c =>
     simp only [At] at hw; subst hw; obtain ⟨t2,rfl⟩:=rw'
     simp only [eqT]
     exact SeqAt.RcAt.list_int c t2 p1.isList cJ
   | str c =>
     simp only [At] at hw; subst hw; obtain ⟨t2,rfl⟩:=rw'
     simp only [eqT]
     exact SeqAt.RcAt.list_str c t2 p1.isList cJ
   | tup l' =>
     simp only [At] at hw
     obtain ⟨p',ws,rfl,g1,g2⟩:=hw
     cases rw'
     obtain ⟨eA,r2,p2,_⟩:=I.tuple g1
     simp only [eqT]
     exact SeqAt.RcAt.list_tuple p1.isList p2 cJ
   | lst l' =>
     simp only [At] at hw
     obtain ⟨p',ws,rfl,g1,g2⟩:=hw
     cases rw'
     obtain ⟨eA,r2,p2,_⟩:=I.list g1.sq
     simp only [eqT]
     simp only [plainT] at pu
     have e1:=r1.length
     have e2:=r2.length
     have e3:=h2.length
     have e4:=g2.length
     by_cases hl:l.length=l'.length
     · have:=SeqAt.RcAt.lists (A:=A) p1.isList p2.isList (by simp only [gD]; omega) cJ (gi I h2 g2 r1 r2 fun j x y v w u u' e1 e2 a1 a2 b1 b2=>sy I 100 x y v w u u' A.in1 (mD (gM e1) (by omega)) v_ (bA pt e1) (bA pu e2) a1 a2 b1 b2)
       simp only [gD] at this
       rw [← e1,e3] at this
       rw [iR hl]
       exact this
     · have:eR l l'=false:=by
        cases q:eR l l' with
        | false=>rfl
        | true=>exact absurd (iQ q) hl
       rw [this]
       exact SeqAt.RcAt.lists_lengths p1.isList p2.isList (by simp only [gD]; rw [bne_iff_ne]; omega) cJ
   | _=>simp only [plainT] at pu; cases pu
 | _=>simp only [plainT] at pt; cases pt
theorem KO (I:Inv X pins σ H s) (t u:T) (v w:V) (a b:Value) (A:Around) (hd:dep t≤100) (hu:A.units+101 < cLine) (pt:plainT t=true) (pu:plainT u=true) (ht:At X.K H O t v) (hw:At X.K H O' u w) (rv:RelV v a) (rw':RelV w b):SeqAt.RcNeAt A s a b (!eqT t u):=by
 have cJ:A.units < cLine:=by omega
 have v_:A.in1.units+100 < cLine:=by rw [in1_units]; omega
 cases t with
 | bu =>
   simp only [At] at ht; subst ht; cases rv
   cases u with
   | bu =>
     simp only [At] at hw; subst hw; cases rw'
     simp only [eqT]
     exact SeqAt.RcNeAt.none_none
   | bl c =>
     simp only [At] at hw; subst hw; cases rw'
     simp only [eqT]
     exact SeqAt.RcNeAt.none_bool c
   | int c =>
     simp only [At] at hw; subst hw; obtain ⟨t2,rfl⟩:=rw'
     simp only [eqT]
     exact SeqAt.RcNeAt.none_int c t2
   | str c =>
     simp only [At] at hw; subst hw; obtain ⟨t2,rfl⟩:=rw'
     simp only [eqT]
     exact SeqAt.RcNeAt.none_str c t2
   | tup l=>simp only [At] at hw; obtain ⟨p,ws,rfl,q,_⟩:=hw; cases rw'; obtain ⟨_,_,p1,_⟩:=I.tuple q; simp only [eqT]; exact SeqAt.RcNeAt.none_tuple p1 cJ
   | lst l=>simp only [At] at hw; obtain ⟨p,ws,rfl,q,_⟩:=hw; cases rw'; obtain ⟨_,_,p1,_⟩:=I.list q.sq; simp only [eqT]; exact SeqAt.RcNeAt.none_list p1.isList cJ
   | _=>simp only [plainT] at pu; cases pu
 | bl d =>
   simp only [At] at ht; subst ht; cases rv
   cases u with
   | bu =>
     simp only [At] at hw; subst hw; cases rw'
     simp only [eqT]
     exact SeqAt.RcNeAt.bool_none d
   | bl c =>
     simp only [At] at hw; subst hw; cases rw'
     simp only [eqT]
     exact SeqAt.RcNeAt.bool_bool d c
   | int c =>
     simp only [At] at hw; subst hw; obtain ⟨t2,rfl⟩:=rw'
     simp only [eqT]
     exact SeqAt.RcNeAt.bool_int d c t2
   | str c =>
     simp only [At] at hw; subst hw; obtain ⟨t2,rfl⟩:=rw'
     simp only [eqT]
     exact SeqAt.RcNeAt.bool_str d c t2
   | tup l=>simp only [At] at hw; obtain ⟨p,ws,rfl,q,_⟩:=hw; cases rw'; obtain ⟨_,_,p1,_⟩:=I.tuple q; simp only [eqT]; exact SeqAt.RcNeAt.bool_tuple d p1 cJ
   | lst l=>simp only [At] at hw; obtain ⟨p,ws,rfl,q,_⟩:=hw; cases rw'; obtain ⟨_,_,p1,_⟩:=I.list q.sq; simp only [eqT]; exact SeqAt.RcNeAt.bool_list d p1.isList cJ
   | _=>simp only [plainT] at pu; cases pu
 | int d =>
   simp only [At] at ht; subst ht; obtain ⟨t1,rfl⟩:=rv
   cases u with
   | bu =>
     simp only [At] at hw; subst hw; cases rw'
     simp only [eqT]
     exact SeqAt.RcNeAt.int_none d t1
   | bl c =>
     simp only [At] at hw; subst hw; cases rw'
     simp only [eqT]
     exact SeqAt.RcNeAt.int_bool d t1 c
   | int c =>
     simp only [At] at hw; subst hw; obtain ⟨t2,rfl⟩:=rw'
     simp only [eqT]
     exact SeqAt.RcNeAt.int_int d t1 c t2
   | str c =>
     simp only [At] at hw; subst hw; obtain ⟨t2,rfl⟩:=rw'
     simp only [eqT]
     exact SeqAt.RcNeAt.int_str d t1 c t2
   | tup l=>simp only [At] at hw; obtain ⟨p,ws,rfl,q,_⟩:=hw; cases rw'; obtain ⟨_,_,p1,_⟩:=I.tuple q; simp only [eqT]; exact SeqAt.RcNeAt.int_tuple d t1 p1 cJ
   | lst l=>simp only [At] at hw; obtain ⟨p,ws,rfl,q,_⟩:=hw; cases rw'; obtain ⟨_,_,p1,_⟩:=I.list q.sq; simp only [eqT]; exact SeqAt.RcNeAt.int_list d t1 p1.isList cJ
   | _=>simp only [plainT] at pu; cases pu
 | str d =>
   simp only [At] at ht; subst ht; obtain ⟨t1,rfl⟩:=rv
   cases u with
   | bu =>
     simp only [At] at hw; subst hw; cases rw'
     simp only [eqT]
     exact SeqAt.RcNeAt.str_none d t1
   | bl c =>
     simp only [At] at hw; subst hw; cases rw'
     simp only [eqT]
     exact SeqAt.RcNeAt.str_bool d t1 c
   | int c =>
     simp only [At] at hw; subst hw; obtain ⟨t2,rfl⟩:=rw'
     simp only [eqT]
     exact SeqAt.RcNeAt.str_int d t1 c t2
   | str c =>
     simp only [At] at hw; subst hw; obtain ⟨t2,rfl⟩:=rw'
     simp only [eqT]
     exact SeqAt.RcNeAt.str_str d t1 c t2
   | tup l=>simp only [At] at hw; obtain ⟨p,ws,rfl,q,_⟩:=hw; cases rw'; obtain ⟨_,_,p1,_⟩:=I.tuple q; simp only [eqT]; exact SeqAt.RcNeAt.str_tuple d t1 p1 cJ
   | lst l=>simp only [At] at hw; obtain ⟨p,ws,rfl,q,_⟩:=hw; cases rw'; obtain ⟨_,_,p1,_⟩:=I.list q.sq; simp only [eqT]; exact SeqAt.RcNeAt.str_list d t1 p1.isList cJ
   | _=>simp only [plainT] at pu; cases pu
 | tup l =>
   simp only [plainT] at pt
   simp only [dep] at hd
   simp only [At] at ht
   obtain ⟨p,vs,rfl,h1,h2⟩:=ht
   cases rv
   obtain ⟨aP,r1,p1,_⟩:=I.tuple h1
   cases u with
   | bu =>
     simp only [At] at hw; subst hw; cases rw'
     simp only [eqT]
     exact SeqAt.RcNeAt.tuple_none p1 cJ
   | bl c =>
     simp only [At] at hw; subst hw; cases rw'
     simp only [eqT]
     exact SeqAt.RcNeAt.tuple_bool c p1 cJ
   | int c =>
     simp only [At] at hw; subst hw; obtain ⟨t2,rfl⟩:=rw'
     simp only [eqT]
     exact SeqAt.RcNeAt.tuple_int c t2 p1 cJ
   | str c =>
     simp only [At] at hw; subst hw; obtain ⟨t2,rfl⟩:=rw'
     simp only [eqT]
     exact SeqAt.RcNeAt.tuple_str c t2 p1 cJ
   | tup l' =>
     simp only [At] at hw
     obtain ⟨p',ws,rfl,g1,g2⟩:=hw
     cases rw'
     obtain ⟨eA,r2,p2,_⟩:=I.tuple g1
     simp only [eqT]
     simp only [plainT] at pu
     have e1:=r1.length
     have e2:=r2.length
     have e3:=h2.length
     have e4:=g2.length
     have:=SeqAt.RcNeAt.tuples (A:=A) p1 p2 cJ (gi I h2 g2 r1 r2 fun j x y v w u u' e1 e2 a1 a2 b1 b2=>sy I 100 x y v w u u' A.in1 (mD (gM e1) (by omega)) v_ (bA pt e1) (bA pu e2) a1 a2 b1 b2)
     simp only [gD] at this
     rw [← e1,← e2,e3,e4] at this
     rw [oj]
     exact this
   | lst l' =>
     simp only [At] at hw
     obtain ⟨p',ws,rfl,g1,g2⟩:=hw
     cases rw'
     obtain ⟨eA,r2,p2,_⟩:=I.list g1.sq
     simp only [eqT]
     exact SeqAt.RcNeAt.tuple_list p1 p2.isList cJ
   | _=>simp only [plainT] at pu; cases pu
 | lst l =>
   simp only [plainT] at pt
   simp only [dep] at hd
   simp only [At] at ht
   obtain ⟨p,vs,rfl,h1,h2⟩:=ht
   cases rv
   obtain ⟨aP,r1,p1,_⟩:=I.list h1.sq
   cases u with
   | bu =>
     simp only [At] at hw; subst hw; cases rw'
     simp only [eqT]
     exact SeqAt.RcNeAt.list_none p1.isList cJ
   | bl c =>
     simp only [At] at hw; subst hw; cases rw'
     simp only [eqT]
     exact SeqAt.RcNeAt.list_bool c p1.isList cJ
   | int c =>
     simp only [At] at hw; subst hw; obtain ⟨t2,rfl⟩:=rw'
     simp only [eqT]
     exact SeqAt.RcNeAt.list_int c t2 p1.isList cJ
   | str c =>
     simp only [At] at hw; subst hw; obtain ⟨t2,rfl⟩:=rw'
     simp only [eqT]
     exact SeqAt.RcNeAt.list_str c t2 p1.isList cJ
   | tup l' =>
     simp only [At] at hw
     obtain ⟨p',ws,rfl,g1,g2⟩:=hw
     cases rw'
     obtain ⟨eA,r2,p2,_⟩:=I.tuple g1
     simp only [eqT]
     exact SeqAt.RcNeAt.list_tuple p1.isList p2 cJ
   | lst l' =>
     simp only [At] at hw
     obtain ⟨p',ws,rfl,g1,g2⟩:=hw
     cases rw'
     obtain ⟨eA,r2,p2,_⟩:=I.list g1.sq
     simp only [eqT]
     simp only [plainT] at pu
     have e1:=r1.length
     have e2:=r2.length
     have e3:=h2.length
     have e4:=g2.length
     by_cases hl:l.length=l'.length
     · have:=SeqAt.RcNeAt.lists (A:=A) p1.isList p2.isList (by simp only [gD]; omega) cJ (gi I h2 g2 r1 r2 fun j x y v w u u' e1 e2 a1 a2 b1 b2=>sy I 100 x y v w u u' A.in1 (mD (gM e1) (by omega)) v_ (bA pt e1) (bA pu e2) a1 a2 b1 b2)
       simp only [gD] at this
       rw [← e1,e3] at this
       rw [iR hl]
       exact this
     · have:eR l l'=false:=by
        cases q:eR l l' with
        | false=>rfl
        | true=>exact absurd (iQ q) hl
       rw [this]
       exact SeqAt.RcNeAt.lists_lengths p1.isList p2.isList (by simp only [gD]; rw [bne_iff_ne]; omega) cJ
   | _=>simp only [plainT] at pu; cases pu
 | _=>simp only [plainT] at pt; cases pt
theorem gB.bare {K:PySem.W.Frag} {H:Hp} {A:List Addr} {t:T} {v:V} (h:gB K H A t v):At K H [] t v:=by
 rcases h with h | ⟨a,rfl,h⟩
 · exact At.bq (O':=[]) (fun _ z=>absurd z d8) h
 · exact (cz.bq (A':=[]) h (fun _ z=>absurd z d8)).at d8
def F0 (K:PySem.W.Frag) (neg:Bool):R2:=fun x y H Q=>∃ t u,At K H [] t x∧At K H [] u y∧plainT t=true∧plainT u=true∧dep t≤100∧Q (.bl (if neg then !eqT t u else eqT t u)) H
theorem Cg (hu:X.A.units+101 < cLine):d_ X (compareOp .Eq) (F0 X.K false):=by
 intro pins s σ H x y v u Q I rx ry ⟨t,t',h1,h2,p1,p2,d,q⟩
 exact KN I t t' x y v u X.A d hu p1 p2 h1 h2 rx ry X.prog X.w X.xe _ ⟨.bl _,H,I,rfl,q⟩
theorem Ci (hu:X.A.units+101 < cLine):d_ X (compareOp .NotEq) (F0 X.K true):=by
 intro pins s σ H x y v u Q I rx ry ⟨t,t',h1,h2,p1,p2,d,q⟩
 exact KO I t t' x y v u X.A d hu p1 p2 h1 h2 rx ry X.prog X.w X.xe _ ⟨.bl _,H,I,rfl,q⟩
end
def Oz (x y:T) (q:Rt→Prop):Prop:=match x,y with
 | .int i,.int j=>q (.vw (.bl (decide (i=j))))
 | .str i,.str j=>q (.vw (.bl (decide (i=j))))
 | .bl i,.bl j=>q (.vw (.bl (decide (i=j))))
 | x,y=>plainT x=true∧plainT y=true∧dep x≤100∧q (.vw (.bl (eqT x y)))
def OA (x y:T) (q:Rt→Prop):Prop:=match x,y with
 | .int i,.int j=>q (.vw (.bl (!decide (i=j))))
 | .str i,.str j=>q (.vw (.bl (!decide (i=j))))
 | .bl i,.bl j=>q (.vw (.bl (!decide (i=j))))
 | x,y=>plainT x=true∧plainT y=true∧dep x≤100∧q (.vw (.bl (!eqT x y)))
theorem F1 {x y:T} {q:Rt→Prop} (h:Oz x y q):plainT x=true∧plainT y=true∧dep x≤100∧q (.vw (.bl (eqT x y))):=by
 unfold Oz at h
 split at h
 · exact ⟨rfl,rfl,km _,by simp only [eqT,QV]; exact h⟩
 · refine ⟨rfl,rfl,km _,?_⟩
   have e:∀ i j:Str,(i == j)=decide (i=j):=fun i j=>by rw [Ib]; simp
   simp only [eqT,e]; exact h
 · exact ⟨rfl,rfl,km _,by simp only [eqT,QV]; exact h⟩
 · exact h
theorem F3 {x y:T} {q:Rt→Prop} (h:OA x y q):plainT x=true∧plainT y=true∧dep x≤100∧q (.vw (.bl (!eqT x y))):=by
 unfold OA at h
 split at h
 · exact ⟨rfl,rfl,km _,by simp only [eqT,QV]; exact h⟩
 · refine ⟨rfl,rfl,km _,?_⟩
   have e:∀ i j:Str,(i == j)=decide (i=j):=fun i j=>by rw [Ib]; simp
   simp only [eqT,e]; exact h
 · exact ⟨rfl,rfl,km _,by simp only [eqT,QV]; exact h⟩
 · exact h
theorem Cj {K:PySem.W.Frag}:qc K (F0 K false) Oz:=by
 intro Z tm O ρ σ H x y v w q Q I h1 h2 h k
 obtain ⟨p1,p2,d,h⟩:=F1 h
 exact ⟨x,y,h1.bare,h2.bare,p1,p2,d,k _ h _ H (aK.refl H) ⟨I,by rw [if_neg qa]; exact cM⟩⟩
theorem Ck {K:PySem.W.Frag}:qc K (F0 K true) OA:=by
 intro Z tm O ρ σ H x y v w q Q I h1 h2 h k
 obtain ⟨p1,p2,d,h⟩:=F3 h
 exact ⟨x,y,h1.bare,h2.bare,p1,p2,d,k _ h _ H (aK.refl H) ⟨I,by rw [if_pos rfl]; exact cM⟩⟩
def KP (g:Int→Int→Bool) (x y:T) (q:Rt→Prop):Prop:=match x,y with
 | .int i,.int j=>q (.vw (.bl (g i j)))
 | _,_=>False
section
variable {K:PySem.W.Frag}
end
def KQ (x y:T) (q:Rt→Prop):Prop:=match x,y with
 | .int i,.int j=>q (.vw (.int (i - j)))
 | _,_=>False
theorem F4 {K:PySem.W.Frag}:qc K (r8 fun i j=>.int (i - j)) KQ:=by
 intro Z tm O ρ σ H x y v w q Q I h1 h2 h k
 unfold KQ at h
 split at h
 · exact ⟨_,_,h1.int,h2.int,k _ h _ H (aK.refl H) ⟨I,bE⟩⟩
 · exact h.elim
def KR (x y:T) (q:Rt→Prop):Prop:=match x,y with
 | .int i,.int j=>BU i j∧q (.vw (.int (i * j)))
 | _,_=>False
theorem F5 {K:PySem.W.Frag}:qc K (rI BU fun i j=>.int (i * j)) KR:=by
 intro Z tm O ρ σ H x y v w q Q I h1 h2 h k
 unfold KR at h
 split at h
 · exact ⟨_,_,h1.int,h2.int,h.1,k _ h.2 _ H (aK.refl H) ⟨I,bE⟩⟩
 · exact h.elim
def KS (x y:T) (q:Rt→Prop):Prop:=match x,y with
 | .int i,.int j=>(0 < j∧j < 1073741824)∧q (.vw (.int (i / j)))
 | _,_=>False
theorem F6 {K:PySem.W.Frag}:qc K (rI NT fun i j=>.int (i / j)) KS:=by
 intro Z tm O ρ σ H x y v w q Q I h1 h2 h k
 unfold KS at h
 split at h
 · exact ⟨_,_,h1.int,h2.int,h.1,k _ h.2 _ H (aK.refl H) ⟨I,bE⟩⟩
 · exact h.elim
def KU (x y:T) (q:Rt→Prop):Prop:=match x,y with
 | .int i,.int j=>0 < j∧q (.vw (.int (i % j)))
 | _,_=>False
theorem F7 {K:PySem.W.Frag}:qc K (rI (fun _ j=>0 < j) fun i j=>.int (i % j)) KU:=by
 intro Z tm O ρ σ H x y v w q Q I h1 h2 h k
 unfold KU at h
 split at h
 · exact ⟨_,_,h1.int,h2.int,h.1,k _ h.2 _ H (aK.refl H) ⟨I,bE⟩⟩
 · exact h.elim
def KW (x y:T) (q:Rt→Prop):Prop:=match x,y with
 | .int i,.int j=>(0≤j∧j≤1000000∧i.natAbs < 2 ^ 64)∧q (.vw (.int (i ^ j.toNat)))
 | _,_=>False
theorem F8 {K:PySem.W.Frag}:qc K (rI NU fun i j=>.int (i ^ j.toNat)) KW:=by
 intro Z tm O ρ σ H x y v w q Q I h1 h2 h k
 unfold KW at h
 split at h
 · exact ⟨_,_,h1.int,h2.int,h.1,k _ h.2 _ H (aK.refl H) ⟨I,bE⟩⟩
 · exact h.elim
def Rn (x y:T) (q:Rt→Prop):Prop:=match x,y with
 | .int i,.int j=>q (.vw (.bl (decide (i < j))))
 | _,_=>False
theorem Cm {K:PySem.W.Frag}:qc K (r8 fun i j=>.bl (decide (i < j))) Rn:=by
 intro Z tm O ρ σ H x y v w q Q I h1 h2 h k
 unfold Rn at h
 split at h
 · exact ⟨_,_,h1.int,h2.int,k _ h _ H (aK.refl H) ⟨I,cM⟩⟩
 · exact h.elim
def Tj (x y:T) (q:Rt→Prop):Prop:=match x,y with
 | .int i,.int j=>q (.vw (.bl (decide (j < i))))
 | _,_=>False
theorem KY {K:PySem.W.Frag}:qc K (r8 fun i j=>.bl (decide (j < i))) Tj:=by
 intro Z tm O ρ σ H x y v w q Q I h1 h2 h k
 unfold Tj at h
 split at h
 · exact ⟨_,_,h1.int,h2.int,k _ h _ H (aK.refl H) ⟨I,cM⟩⟩
 · exact h.elim
def Iv (x y:T) (q:Rt→Prop):Prop:=match x,y with
 | .int i,.int j=>q (.vw (.int (i+j)))
 | _,_=>False
theorem Cn {K:PySem.W.Frag}:qc K (r8 fun i j=>.int (i+j)) Iv:=by
 intro Z tm O ρ σ H x y v w q Q I h1 h2 h k
 unfold Iv at h
 split at h
 · exact ⟨_,_,h1.int,h2.int,k _ h _ H (aK.refl H) ⟨I,bE⟩⟩
 · exact h.elim
def Iw (K:PySem.W.Frag):R2:=fun x y H Q=>∃ l b xs zs,x = .ref l∧y = .ref b∧eJ K H l xs∧eJ K H b zs∧xs.length+zs.length≤sizeLine∧∀ p,H p=none→Q (.ref p) (upd H p (.lst (xs ++ zs)))
def Iy (K:PySem.W.Frag):R2:=fun x y H Q=>∃ a b xs ys,x = .ref a∧y = .ref b∧dF K H a xs∧dF K H b ys∧xs.length+ys.length≤sizeLine∧(xs=[]→Q (.ref b) H)∧(xs≠[]→ys=[]→Q (.ref a) H)∧(xs≠[]→ys≠[]→∀ p,H p=none→Q (.ref p) (upd H p (.tup (xs ++ ys))))
section
variable {X:Cx}
theorem F9:d_ X (binaryOp .Add) (Iw X.K):=by
 intro pins s σ H x y v u Q I rx ry h
 obtain ⟨l,b,xs,zs,rfl,rfl,hH,hB,hz,q⟩:=h
 cases rx
 cases ry
 obtain ⟨aP,r,p1,z1⟩:=I.list hH
 obtain ⟨eA,r2,p2,z2⟩:=I.list hB
 obtain ⟨⟨cls,dd,data,sl⟩,n,ho,hc,_,hd⟩:=p1
 obtain ⟨⟨N1,M8,data2,yz⟩,n2,By,Bz,_,hd2⟩:=p2
 simp only at hc hd Bz hd2
 subst hc hd Bz hd2
 have l1:=r.length
 have l2:=r2.length
 have e:aP.toArray ++ eA.toArray=(aP ++ eA).toArray:=by simp
 refine concat_meets ⟨_,ho,rfl⟩ ⟨_,By,rfl⟩ noFill_list_add seq_list_add PySem.F.slot_list_add PySem.F.entry_list_add (PySem.F.args_list_add_2 _ _) (list_addW l b aP.toArray eA.toArray n n2 dd M8 sl yz (by simp only [gD]; omega)) ⟨ho,By,?_⟩
 rw [e]
 exact ⟨.ref _,_,I.SQ (t':=s.toks) (r.append r2) (by rw [qd]; omega),rfl,q _ I.fresh⟩
theorem F_:d_ X (binaryOp .Add) (Iy X.K):=by
 intro pins s σ H x y v u Q I rx ry h
 obtain ⟨a,b,xs,ys,rfl,rfl,ha,hb,hz,q0,q1,q2⟩:=h
 cases rx
 cases ry
 obtain ⟨aP,r1,p1,_⟩:=I.tuple ha
 obtain ⟨eA,r2,p2,_⟩:=I.tuple hb
 by_cases hx:xs=[]
 · obtain ⟨⟨cls,dd,data,sl⟩,ho,hc,n,hd⟩:=id p1
   obtain ⟨⟨N1,M8,data2,yz⟩,By,Bz,n2,hd2⟩:=id p2
   simp only at hc hd Bz hd2
   subst hc hd Bz hd2
   exact concat_meets ⟨_,ho,rfl⟩ ⟨_,By,rfl⟩ noFill_tuple_add seq_tuple_add R8 R5 (R4 _ _)
    (tuple_addW0 a b aP.toArray eA.toArray n n2 dd M8 sl yz (by simp [r1.nK.mpr hx])) ⟨ho,By,⟨.ref b,H,I,rfl,q0 hx⟩⟩
 · refine HT.Fw p1 p2 (fun z=>hx (r1.nK.mp z)) (fun z=>⟨.ref a,H,I,rfl,q1 hx (r2.nK.mp z)⟩) (fun z=>?_) (by rw [← r1.length,← r2.length]; exact hz)
   refine ⟨.ref s.heap.objs.size,_,I.laid (t':=s.toks) (o:=.tup (xs ++ ys)) (fun b ob q=>de _ q) (dX _) ?_,rfl,q2 hx (fun w=>z (r2.nK.mpr w)) _ (I.bC.fresh (dX _))⟩
   exact ⟨by rw [qd]; exact hz,_,r1.append r2,IsTup.new _ _⟩
end
def Iz (K:PySem.W.Frag):R2:=fun x y H Q=>r8 (fun i j=>.int (i+j)) x y H Q∨(fun x y H Q=>∃ i j,x = .str i∧y = .str j∧i.length+j.length≤sizeLine∧Q (.str (i ++ j)) H) x y H Q∨Iw K x y H Q∨Iy K x y H Q
theorem F' {X:Cx}:d_ X (binaryOp .Add) (Iz X.K):=d_.or Kd (d_.or wx (d_.or F9 F_))
def KZ (x y:T) (q:Rt→Prop):Prop:=match x,y with
 | .int i,.int j=>q (.vw (.int (i+j)))
 | .str i,.str j=>i.length+j.length≤sizeLine∧q (.vw (.str (i ++ j)))
 | .lst a,.lst b=>a.length+b.length≤sizeLine∧q (.fr (.lst (a ++ b)))
 | .tup a,.tup b=>a.length+b.length≤sizeLine∧q (.vw (.tup (a ++ b)))
 | _,_=>False
theorem Ga {K:PySem.W.Frag}:qc K (Iz K) KZ:=by
 intro Z tm O ρ σ H x y v w q Q I h1 h2 h k
 unfold KZ at h
 split at h
 · exact .inl ⟨_,_,h1.int,h2.int,k _ h _ H (aK.refl H) ⟨I,bE⟩⟩
 · exact .inr (.inl ⟨_,_,h1.str,h2.str,h.1,k _ h.2 _ H (aK.refl H) ⟨I,cf⟩⟩)
 · obtain ⟨a,vs,rfl,s1,a1⟩:=h1.lst
   obtain ⟨b,ws,rfl,s2,a2⟩:=h2.lst
   exact .inr (.inr (.inl ⟨a,b,vs,ws,rfl,rfl,s1,s2,by rw [a1.length,a2.length]; exact h.1,fun p hp=>k _ h.2 _ _ (aM hp) (I.Cd hp (a1.append a2))⟩))
 · obtain ⟨a,vs,rfl,s1,a1⟩:=h1.tup
   obtain ⟨b,ws,rfl,s2,a2⟩:=h2.tup
   refine .inr (.inr (.inr ⟨a,b,vs,ws,rfl,rfl,s1,s2,by rw [a1.length,a2.length]; exact h.1,fun e=>?_,fun _ e=>?_,fun _ _ p hp=>?_⟩))
   · subst e
     have e:=a1.length
     rename_i xs ys
     have e':xs=[]:=QR.mp e.symm
     subst e'
     exact k _ h.2 _ H (aK.refl H) ⟨I,br s2 a2⟩
   · subst e
     have e:=a2.length
     rename_i xs ys _
     have e':ys=[]:=QR.mp e.symm
     subst e'
     exact k _ h.2 _ H (aK.refl H) ⟨I,by rw [EL]; exact br s1 a1⟩
   · exact k _ h.2 _ _ (aM hp) ⟨I.same (aM hp),br (dF.of aT) ((a1.append a2).same (aM hp))⟩
 · exact h.elim
section
variable {X:Cx} {Z:Zc} {e a b:Expr} {es:List Expr} {pos:Pos} {fa fb:FE}
theorem ba (ha:VR X Z a fa) (hb:VR X Z b fb):VP X Z (.BinOp a .Add b pos) (f2 fa fb KZ):=lK F' Ga ha hb
theorem om (ha:VR X Z a fa) (hb:VR X Z b fb):VP X Z (.BinOp a .Sub b pos) (f2 fa fb KQ):=lK Ke F4 ha hb
theorem fP (ha:VR X Z a fa) (hb:VR X Z b fb):VP X Z (.BinOp a .Mult b pos) (f2 fa fb KR):=lK Kg F5 ha hb
theorem a_ (ha:VR X Z a fa) (hb:VR X Z b fb):VP X Z (.BinOp a .FloorDiv b pos) (f2 fa fb KS):=lK Fp F6 ha hb
theorem aU (ha:VR X Z a fa) (hb:VR X Z b fb):VP X Z (.BinOp a .Mod b pos) (f2 fa fb KU):=lK Kh F7 ha hb
theorem jY (ha:VR X Z a fa) (hb:VR X Z b fb):VP X Z (.BinOp a .Pow b pos) (f2 fa fb KW):=lK Ki F8 ha hb
def Tn (f:FE):FP:=fun ρ Q=>f ρ fun x=>match x with
 | .int i=>Q (.vw (.int (-i)))
 | _=>False
theorem gN (ha:VR X Z a fa):VP X Z (.UnaryOp .USub a pos) (Tn fa):=.mk fun tm=>PE.weak (NR Kj (ha tm)) fun σ H Q ⟨ρ,O,q,I,hf,k⟩=>⟨ρ,O,_,I,hf,fun t ht v H1 s1 a1=>by
 split at ht
 · exact ⟨_,a1.int,k _ ht _ H1 s1 ⟨I.same s1,bE⟩⟩
 · exact ht.elim⟩
theorem mG (hu:X.A.units+101 < cLine) (ha:VR X Z a fa) (hb:VR X Z b fb):VP X Z (.Compare a [.Eq] [b] pos) (f2 fa fb Oz):=oh (Cg hu) Cj ha hb (iI _)
theorem Co (hu:X.A.units+101 < cLine) (ha:VR X Z a fa) (hb:VR X Z b fb):VP X Z (.Compare a [.NotEq] [b] pos) (f2 fa fb OA):=oh (Ci hu) Ck ha hb (iI _)
theorem OB (ha:VR X Z a fa) (hb:VR X Z b fb):VP X Z (.Compare a [.Lt] [b] pos) (f2 fa fb Rn):=oh BW Cm ha hb (iI _)
theorem bz (hu:X.A.units+101 < cLine) (ha:VR X Z a fa) (hb:VR X Z b fb):VC X Z (.Compare a [.Eq] [b] pos) (qr (f2 fa fb Oz)):=jW (Cg hu) Cj ha hb (iI _)
theorem oq (hu:X.A.units+101 < cLine) (ha:VR X Z a fa) (hb:VR X Z b fb):VC X Z (.Compare a [.NotEq] [b] pos) (qr (f2 fa fb OA)):=jW (Ci hu) Ck ha hb (iI _)
theorem gj (ha:VR X Z a fa) (hb:VR X Z b fb):VC X Z (.Compare a [.Lt] [b] pos) (qr (f2 fa fb Rn)):=jW BW Cm ha hb (iI _)
theorem rh (ha:VR X Z a fa) (hb:VR X Z b fb):VC X Z (.Compare a [.Gt] [b] pos) (qr (f2 fa fb Tj)):=jW NV KY ha hb (iI _)
def f3 (fa fb fc:FE) (p p':T→T→(Rt→Prop)→Prop):FP:=fun ρ Q=>fa ρ fun x=>fb ρ fun y=>p x y fun r=>match r with
 | .vw (.bl true)=>fc ρ fun z=>p' y z Q
 | .vw (.bl false)=>Q (.vw (.bl false))
 | _=>False
end
theorem Cp {K:PySem.W.Frag} {H:Hp} {A:List Addr} {ts:List T} {vs:List V} {i:Int} {t:T} (h:aG K H A ts vs) (e:jS ts i=some t):∃ v,jS vs i=some v∧At K H A t v:=by
 unfold jS at e ⊢
 rw [h.length]
 cases q:yC ts.length i with
 | none=>rw [q] at e; cases e
 | some j =>
   rw [q] at e
   obtain ⟨v,h1,h2⟩:=h.get (i:=j) e
   exact ⟨v,h1,h2⟩
def To (x y:T) (q:Rt→Prop):Prop:=match x,y with
 | .lst ts,.int i=>∃ t,jS ts i=some t∧q (.vw t)
 | .tup ts,.int i=>∃ t,jS ts i=some t∧q (.vw t)
 | .str z,.int i=>z.length≤sizeLine∧∃ c,jS z.cps.toList i=some c∧q (.vw (.str ⟨#[c]⟩))
 | _,_=>False
theorem K0 {K:PySem.W.Frag}:qc K (V0 K) To:=by
 intro Z tm O ρ σ H x y v w q Q I h1 h2 h k
 unfold To at h
 split at h
 · obtain ⟨t,e,h⟩:=h
   obtain ⟨a,vs,rfl,s1,a1⟩:=h1.lst
   obtain ⟨u,e',a2⟩:=Cp a1 e
   exact .inl ⟨a,vs,_,u,rfl,h2.int,s1,e',k _ h _ H (aK.refl H) ⟨I,a2⟩⟩
 · obtain ⟨t,e,h⟩:=h
   obtain ⟨a,vs,rfl,s1,a1⟩:=h1.tup
   obtain ⟨u,e',a2⟩:=Cp a1 e
   exact .inr (.inl ⟨a,vs,_,u,rfl,h2.int,s1,e',k _ h _ H (aK.refl H) ⟨I,a2⟩⟩)
 · obtain ⟨hz,c,e,h⟩:=h
   exact .inr (.inr ⟨_,_,c,h1.str,h2.int,hz,e,k _ h _ H (aK.refl H) ⟨I,cf⟩⟩)
 · exact h.elim
section
variable {X:Cx} {Z:Zc} {e a b:Expr} {es:List Expr} {pos:Pos} {fa fb:FE}
theorem aJ (ha:VR X Z a fa) (hb:VR X Z b fb) (hs:yE b:=by exact fun _ _=>rfl):VP X Z (.Subscript a b pos) (f2 fa fb To) :=
 .mk fun tm=>PE.weak (N5 Kv (ha tm) (hb tm) hs) (two K0)
end
abbrev FO:=En→(Option Int→Prop)→Prop
def lO (X:Cx) (Z:Zc) (tm:List (T×V)) (f:FO):TO:=fun σ H Q=>∃ ρ O q,ax X.K Z tm O ρ σ H∧f ρ q∧∀ o,q o→∀ H',aK H H'→Q o H'
def VO (X:Cx) (Z:Zc) (e:Option Expr) (f:FO):Prop:=Bx fun tm=>PO X e (lO X Z tm f)
instance {X:Cx} {Z:Zc} {e:Option Expr} {f:FO}:CoeFun (VO X Z e f) fun _=>∀ tm,PO X e (lO X Z tm f):=⟨fun h=>Bx.h h⟩
theorem PO.weak {X:Cx} {e:Option Expr} {t t':TO} (h:PO X e t) (hw:∀ σ H Q,t' σ H Q→t σ H Q):PO X e t':=fun pins s σ H Q I q=>h pins s σ H Q I (hw _ _ _ q)
def Xl:FO:=fun _ Q=>Q none
def Xm (f:FE):FO:=fun ρ Q=>f ρ fun t=>match t with
 | .int i=>Q (some i)
 | _=>False
def dj {α:Type} (xs:List α) (lo hi:Option Int):List α:=(xs.drop (HT.cp xs.length 0 lo)).take (HT.cp xs.length xs.length hi - HT.cp xs.length 0 lo)
theorem aG.cut {K:PySem.W.Frag} {H:Hp} {A:List Addr} {ts:List T} {vs:List V} (h:aG K H A ts vs) (lo hi:Option Int):aG K H A (dj ts lo hi) (r9 vs lo hi):=by
 unfold dj r9
 rw [h.length]
 exact (h.drop _).take _
theorem Cq {α:Type} {xs:List α} {lo hi:Option Int} (h:HT.cp xs.length 0 lo=0∧HT.cp xs.length xs.length hi=xs.length):dj xs lo hi=xs:=by
 unfold dj
 rw [h.1,h.2,List.drop_zero,Nat.sub_zero,Q6]
def Tp (K:PySem.W.Frag):V→Option Int→Option Int→Hp→VK→Prop:=fun x lo hi H Q=>N_ K x lo hi H Q∨N4 K x lo hi H Q∨Ou x lo hi H Q
theorem Tq {X:Cx}:BA X (Tp X.K):=BA.or FJ (BA.or B2 KI)
def V_ (x:T) (lo hi:Option Int) (q:Rt→Prop):Prop:=match x with
 | .lst ts=>q (.fr (.lst (dj ts lo hi)))
 | .tup ts=>¬ (HT.cp ts.length 0 lo=0∧HT.cp ts.length ts.length hi=ts.length)∧q (.vw (.tup (dj ts lo hi)))
 | .str z=>z.length≤sizeLine∧q (.vw (.str (Txt.slice z lo hi)))
 | _=>False
def Xn (fa:FE) (fl fh:FO):FP:=fun ρ Q=>fa ρ fun x=>fl ρ fun lo=>fh ρ fun hi=>V_ x lo hi Q
section
variable {X:Cx} {Z:Zc} {e a b:Expr} {lo hi:Option Expr} {pos p2:Pos} {fa:FE} {fl fh:FO}
theorem cj:VO X Z none Xl:=.mk fun tm=>PO.weak Fz fun σ H Q ⟨ρ,O,q,I,hf,k⟩=>k _ hf H (aK.refl H)
theorem bH (h:VR X Z e fa):VO X Z (some e) (Xm fa):=.mk fun tm=>PO.weak (FC (h tm)) fun σ H Q ⟨ρ,O,q,I,hf,k⟩=>⟨ρ,O,_,I,hf,fun t ht v H' s z=>by
 split at ht
 · exact ⟨_,z.int,k _ ht H' s⟩
 · exact ht.elim⟩
theorem bF (he:VR X Z e fa) (hl:VO X Z lo fl) (hh:VO X Z hi fh):VP X Z (.Subscript e (.Slice lo hi none p2) pos) (Xn fa fl fh) :=
 .mk fun tm=>PE.weak (uv Tq (he tm) (hl tm) (hh tm)) fun σ H Q ⟨ρ,O,q,I,hf,k⟩=>⟨ρ,O,_,I,hf,fun x hx v H1 s1 a1=>⟨ρ,O,_,I.same s1,hx,fun l hl H2 s2=>⟨ρ,O,_,(I.same s1).same s2,hl,fun u hu H3 s3=>by
  have J:=((I.same s1).same s2).same s3
  have a3:=(a1.same s2).same s3
  have S:=(s1.trans s2).trans s3
  unfold V_ at hu
  split at hu
  · obtain ⟨p,vs,rfl,q1,q2⟩:=a3.lst
    exact .inl ⟨p,vs,rfl,q1,fun r hr=>k _ hu _ _ (S.trans (aM hr)) (J.Cd hr (q2.cut _ _))⟩
  · obtain ⟨p,vs,rfl,q1,q2⟩:=a3.tup
    refine .inr (.inl ⟨p,vs,rfl,q1,by rw [q2.length]; exact hu.1,fun r hr=>k _ hu.2 _ _ (S.trans (aM hr)) ⟨J.same (aM hr),br (dF.of aT) ((q2.cut _ _).same (aM hr))⟩⟩)
  · exact .inr (.inr ⟨_,a3.str,hu.1,k _ hu.2 _ H3 S ⟨J,cf⟩⟩)
  · exact hu.elim⟩⟩⟩
end
def IA (g:FA) (p:List T→(Rt→Prop)→Prop):FP:=fun ρ Q=>g ρ fun ts=>p ts Q
def ot (K:PySem.W.Frag) (r:List V→Hp→VK→Prop) (p:List T→(Rt→Prop)→Prop):Prop :=
 ∀ (Z:Zc) (tm:List (T×V)) (O:List (Option Addr)) (ρ:En) (σ:St) (H:Hp) (ts:List T) (vs:List V) (q:Rt→Prop) (Q:VK),ax K Z tm O ρ σ H→Paired (fun v t=>gB K H (av Z O) t v) vs ts→p ts q →
  (∀ t,q t→∀ u H',aK H H'→iO K Z tm O ρ σ H' t u→Q u H')→r vs H Q
section
variable {X:Cx} {Z:Zc} {e a b:Expr} {es:List Expr} {pos p:Pos} {g:FA} {x:Str} {id Ty:String} {r:List V→Hp→VK→Prop} {pp:List T→(Rt→Prop)→Prop}
theorem aB (hc:c_ X (.builtin id) r) (ht:ot X.K r pp) (hg:Gl X x) (hm:X.mg x=none) (hv:bootBuiltins x=some (.builtin id)) (ha:EU X Z (e :: es) g) (hn:x≠"__name__":=by decide) (n6:gg x:=by decide)
  (hs:starEach (e :: es) X.env=(false,eval e X.env) :: starEach es X.env:=by rfl) (fE:(backTo pos (starEach es X.env)).any (·.1)=false:=by rfl):VP X Z (.Call (.Name x p) (e :: es) [] pos) (IA g pp) :=
 .mk fun tm=>PE.weak (kx hc hg hm hv (ha tm) hn n6 hs fE) fun σ H Q ⟨ρ,O,q,I,hf,k⟩=>⟨ρ,O,_,I,hf,fun ts gC vs H1 s1 a1=>ht Z tm O ρ σ H1 ts vs q _ (I.same s1) a1 gC fun t h u H' s z=>k t h u H' (s1.trans s) z⟩
theorem eE (hc:c_ X (.type Ty) r) (ht:ot X.K r pp) (hg:Gl X x) (hm:X.mg x=none) (hv:bootBuiltins x=some (.type Ty)) (ha:EU X Z (e :: es) g) (hn:x≠"__name__":=by decide) (n6:gg x:=by decide)
  (hs:starEach (e :: es) X.env=(false,eval e X.env) :: starEach es X.env:=by rfl) (fE:(backTo pos (starEach es X.env)).any (·.1)=false:=by rfl):VP X Z (.Call (.Name x p) (e :: es) [] pos) (IA g pp) :=
 .mk fun tm=>PE.weak (q8 hc hg hm hv (ha tm) hn n6 hs fE) fun σ H Q ⟨ρ,O,q,I,hf,k⟩=>⟨ρ,O,_,I,hf,fun ts gC vs H1 s1 a1=>ht Z tm O ρ σ H1 ts vs q _ (I.same s1) a1 gC fun t h u H' s z=>k t h u H' (s1.trans s) z⟩
end
def OC (ts:List T) (q:Rt→Prop):Prop:=match ts with
 | [.lst l]=>q (.vw (.int l.length))
 | [.tup l]=>q (.vw (.int l.length))
 | [.str z]=>z.length≤sizeLine∧q (.vw (.int z.length))
 | _=>False
def IB (K:PySem.W.Frag):List V→Hp→VK→Prop:=fun xs H Q=>(∃ p ys,xs=[.ref p]∧(eJ K H p ys∨dF K H p ys)∧Q (.int ys.length) H)∨(∃ z,xs=[.str z]∧z.length≤sizeLine∧Q (.int z.length) H)
theorem ay {X:Cx}:c_ X (.builtin "len") (IB X.K):=c_.or sh si
theorem cK {α β:Type} {F:α→β→Prop} {vs:List α} {t:β} (h:Paired F vs [t]):∃ v,vs=[v]∧F v t:=by
 cases h with
 | cons r q=>cases q; exact ⟨_,rfl,r⟩
theorem az {K:PySem.W.Frag}:ot K (IB K) OC:=by
 intro Z tm O ρ σ H ts vs q Q I h hp k
 unfold OC at hp
 split at hp
 · obtain ⟨v,rfl,a⟩:=cK h
   obtain ⟨p,ws,rfl,q1,q2⟩:=a.lst
   exact .inl ⟨p,ws,rfl,.inl q1,k _ hp _ H (aK.refl H) ⟨I,by rw [q2.length]; exact bE⟩⟩
 · obtain ⟨v,rfl,a⟩:=cK h
   obtain ⟨p,ws,rfl,q1,q2⟩:=a.tup
   exact .inl ⟨p,ws,rfl,.inr q1,k _ hp _ H (aK.refl H) ⟨I,by rw [q2.length]; exact bE⟩⟩
 · obtain ⟨v,rfl,a⟩:=cK h
   exact .inr ⟨_,by rw [a.str],hp.1,k _ hp.2 _ H (aK.refl H) ⟨I,bE⟩⟩
 · exact hp.elim
def IC (ts:List T) (q:Rt→Prop):Prop:=match ts with
 | [.lst l]=>q (.fr (.lst l))
 | [.tup l]=>q (.fr (.lst l))
 | _=>False
theorem jZ {K:PySem.W.Frag}:ot K (fun xs H Q=>∃ p ys,xs=[.ref p]∧(eJ K H p ys∨dF K H p ys)∧∀ l,H l=none→Q (.ref l) (upd H l (.lst ys))) IC:=by
 intro Z tm O ρ σ H ts vs q Q I h hp k
 unfold IC at hp
 split at hp
 · obtain ⟨v,rfl,a⟩:=cK h
   obtain ⟨p,ws,rfl,q1,q2⟩:=a.lst
   exact ⟨p,ws,rfl,.inl q1,fun l hl=>k _ hp _ _ (aM hl) (I.Cd hl q2)⟩
 · obtain ⟨v,rfl,a⟩:=cK h
   obtain ⟨p,ws,rfl,q1,q2⟩:=a.tup
   exact ⟨p,ws,rfl,.inr q1,fun l hl=>k _ hp _ _ (aM hl) (I.Cd hl q2)⟩
 · exact hp.elim
def Cr (ts:List T) (q:Rt→Prop):Prop:=match ts with
 | [.lst l]=>q (.vw (.tup l))
 | [.tup l]=>q (.vw (.tup l))
 | _=>False
theorem iS {K:PySem.W.Frag}:ot K (fun xs H Q=>∃ p ys,xs=[.ref p]∧((eJ K H p ys∧∀ l,H l=none→Q (.ref l) (upd H l (.tup ys)))∨(dF K H p ys∧Q (.ref p) H))) Cr:=by
 intro Z tm O ρ σ H ts vs q Q I h hp k
 unfold Cr at hp
 split at hp
 · obtain ⟨v,rfl,a⟩:=cK h
   obtain ⟨p,ws,rfl,q1,q2⟩:=a.lst
   exact ⟨p,ws,rfl,.inl ⟨q1,fun l hl=>k _ hp _ _ (aM hl) ⟨I.same (aM hl),br (dF.of aT) (q2.same (aM hl))⟩⟩⟩
 · obtain ⟨v,rfl,a⟩:=cK h
   obtain ⟨p,ws,rfl,q1,q2⟩:=a.tup
   exact ⟨p,ws,rfl,.inr ⟨q1,k _ hp _ H (aK.refl H) ⟨I,br q1 q2⟩⟩⟩
 · exact hp.elim
structure ID where
 nx:En→Prop
 rt:En→Rt→Prop
 bk:En→Prop:=fun _=>False
 ct:En→Prop:=fun _=>False
structure Fin (K:PySem.W.Frag) (Z:Zc) (tm:List (T×V)) (d:ID) (D:Ends):Prop where
 nx:∀ O ρ σ H,ax K Z tm O ρ σ H→d.nx ρ→D.nx σ H
 rt:∀ O ρ σ H r v,iO K Z tm O ρ σ H r v→d.rt ρ r→D.rt v H
 bk:∀ O ρ σ H,ax K Z tm O ρ σ H→d.bk ρ→D.bk σ H
 ct:∀ O ρ σ H,ax K Z tm O ρ σ H→d.ct ρ→D.ct σ H
abbrev FS:=ID→En→Prop
def lS (X:Cx) (Z:Zc) (tm:List (T×V)) (g:FS):TS:=fun D σ H=>∃ ρ O d,ax X.K Z tm O ρ σ H∧g d ρ∧Fin X.K Z tm d D
def VS (X:Cx) (Z:Zc) (st:Stmt) (g:FS):Prop:=Bx fun tm=>PS X st (lS X Z tm g)
instance {X:Cx} {Z:Zc} {st:Stmt} {g:FS}:CoeFun (VS X Z st g) fun _=>∀ tm,PS X st (lS X Z tm g):=⟨fun h=>Bx.h h⟩
def lr (X:Cx) (Z:Zc) (st:List Stmt) (g:FS):Prop:=Bx fun tm=>nH X st (lS X Z tm g)
instance {X:Cx} {Z:Zc} {st:List Stmt} {g:FS}:CoeFun (lr X Z st g) fun _=>∀ tm,nH X st (lS X Z tm g):=⟨fun h=>Bx.h h⟩
def aX (Z:Zc) (i:Nat):Prop:=∀ p∈Z.P,p.1≠i
section
variable {X:Cx} {Z:Zc} {st:Stmt} {rest:List Stmt} {g u:FS} {e:Expr} {pos:Pos}
def OD:FS:=fun d ρ=>d.nx ρ
def Tr (g u:FS):FS:=fun d ρ=>g { d with nx:=u d } ρ
theorem aA:lr X Z [] OD:=.mk fun tm=>nH.uI Fi fun D σ H ⟨ρ,O,d,I,h,F⟩=>F.nx O ρ σ H I h
theorem ag (h1:VS X Z st g) (h2:lr X Z rest u):lr X Z (st :: rest) (Tr g u):=.mk fun tm=>nH.uI (nZ (h1 tm) (h2 tm)) fun D σ H ⟨ρ,O,d,I,h,F⟩ =>
 ⟨ρ,O,{ d with nx:=u d },I,h,⟨fun O' ρ' σ' H' I' h'=>⟨ρ',O',d,I',h',F⟩,F.rt,F.bk,F.ct⟩⟩
theorem ah (h1:VS X Z st g):lr X Z [st] g:=.mk fun tm=>r6 (h1 tm)
theorem lr.weak (h:lr X Z rest g) (hw:∀ d ρ,u d ρ→g d ρ):lr X Z rest u:=.mk fun tm=>nH.uI (h tm) fun D σ H ⟨ρ,O,d,I,q,F⟩=>⟨ρ,O,d,I,hw d ρ q,F⟩
def OE (f:FX):FS:=fun d ρ=>f ρ fun ρ' _=>d.nx ρ'
theorem bf {f:FX} (h:VX X Z e f) (hs:swapsWith e none pos.line X.env=pure false:=by rfl):VS X Z (.Expr e pos) (OE f):=.mk fun tm=>PS.weak (nJ (h tm) hs) fun D σ H ⟨ρ,O,d,I,q,F⟩ =>
 ⟨ρ,O,_,I,q,fun ρ' r hr O' v H' z=>F.nx O' ρ' σ H' z.env hr⟩
def Ts (f:FX):FS:=fun d ρ=>f ρ fun ρ' r=>d.rt ρ' r
theorem aD {f:FX} (h:VX X Z e f):VS X Z (.Return (some e) pos) (Ts f):=.mk fun tm=>PS.weak (JT (h tm)) fun D σ H ⟨ρ,O,d,I,q,F⟩ =>
 ⟨ρ,O,_,I,q,fun ρ' r hr O' v H' z=>F.rt O' ρ' σ H' r v z hr⟩
def Xo (c:FB) (g u:FS):FS:=fun d ρ=>c ρ fun b=>if b=true then g d ρ else u d ρ
theorem aS {c:Expr} {fc:FB} {a b:List Stmt} (hc:VC X Z c fc) (ha:lr X Z a g) (hb:lr X Z b u):VS X Z (.If c a b pos) (Xo fc g u):=.mk fun tm=>PS.weak (NJ (hc tm) (ha tm) (hb tm)) fun D σ H ⟨ρ,O,d,I,q,F⟩ =>
 ⟨ρ,O,_,I,q,fun b hb H' s=>by
   cases b with
   | true=>rw [if_pos rfl] at hb ⊢; exact ⟨ρ,O,d,I.same s,hb,F⟩
   | false=>rw [if_neg qa] at hb ⊢; exact ⟨ρ,O,d,I.same s,hb,F⟩⟩
def OF (i:Nat) (f:FX):FS:=fun d ρ=>f ρ fun ρ' r=>d.nx (ρ'.set i (some (r.t,false)))
def Tt (i:Nat) (f:FX):FS:=fun d ρ=>f ρ fun ρ' r=>match r with
 | .fr t=>d.nx (ρ'.set i (some (t,true)))
 | _=>False
theorem aV {i:Nat} {x:Str} {f:FX} {pos':Pos} (hN:X.N.Nodup) (hi:X.N[i]?=some x) (hx:Loc X.env.scope x) (he:VX X Z e f) (hp:aX Z i) (hs:swapsWith e (some (.Name x pos')) pos.line X.env=pure false:=by rfl)
  (hf:X.fn x=true∨X.env.scope.names.lookup x=some .local:=by first | exact .inl rfl | exact .inr rfl | assumption):VS X Z (.Assign [.Name x pos'] e pos) (OF i f):=.mk fun tm=>PS.weak (wj hN hi hx (he tm) hs hf) fun D σ H ⟨ρ,O,d,I,q,F⟩ =>
 ⟨ρ,O,_,I,q,fun ρ' r hr O' v H' z=>F.nx _ _ _ H' (z.env.put hp z.at) hr⟩
theorem fQ {i:Nat} {x:Str} {f:FX} {pos':Pos} (hN:X.N.Nodup) (hi:X.N[i]?=some x) (hx:Loc X.env.scope x) (he:VX X Z e f) (hp:aX Z i) (hs:swapsWith e (some (.Name x pos')) pos.line X.env=pure false:=by rfl)
  (hf:X.fn x=true∨X.env.scope.names.lookup x=some .local:=by first | exact .inl rfl | exact .inr rfl | assumption):VS X Z (.Assign [.Name x pos'] e pos) (Tt i f):=.mk fun tm=>PS.weak (wj hN hi hx (he tm) hs hf) fun D σ H ⟨ρ,O,d,I,q,F⟩ =>
 ⟨ρ,O,_,I,q,fun ρ' r hr O' v H' z=>by
   split at hr
   · obtain ⟨a,rfl,J,hR,h0,M9⟩:=z
     exact F.nx _ _ _ H' (J.Ta hp hR h0 M9) hr
   · exact hr.elim⟩
def OG (i:Nat) (f:FE) (p:T→T→(Rt→Prop)→Prop):FS:=fun d ρ=>match ρ[i]? with
 | some (some (x,false))=>f ρ fun y=>p x y fun r=>d.nx (ρ.set i (some (r.t,false)))
 | _=>False
theorem K1 {i:Nat} {x:Str} {f:FE} {op:Operator} {r:R2} {p:T→T→(Rt→Prop)→Prop} {pos':Pos} (hN:X.N.Nodup) (hi:X.N[i]?=some x) (hx:Loc X.env.scope x) (he:VR X Z e f) (ho:d_ X (inplaceOp op) r) (ht:qc X.K r p) (hp:aX Z i)
  (hf:X.fn x=true∨X.env.scope.names.lookup x=some .local:=by first | exact .inl rfl | exact .inr rfl | assumption):VS X Z (.AugAssign (.Name x pos') op e pos) (OG i f p):=.mk fun tm=>PS.weak (JX hN hi hx (he tm) ho hf) fun D σ H ⟨ρ,O,d,I,q,F⟩=>by
 unfold OG at q
 split at q
 · rename_i t e0
   obtain ⟨o,s,h1,h2,rfl,v,rfl,h3⟩:=I.sl i _ e0
   refine ⟨v,h2,ρ,O,_,I,q,fun y hy w H1 s1 a1=>?_⟩
   exact ht Z tm O ρ σ H1 t y v w _ _ (I.same s1) (.inl (h3.same s1)) a1 hy fun r hr z H2 s2 k=>F.nx _ _ _ H2 (k.env.put hp k.at) hr
 · exact q.elim
def Tu (is:List Nat) (g:FS):FS:=fun d ρ=>g d (is.foldl (fun ρ i=>match ρ[i]? with
 | some (some (t,true))=>ρ.set i (some (t,false))
 | _=>ρ) ρ)
theorem ou {K:PySem.W.Frag} {tm:List (T×V)}:∀ (is:List Nat) {O:List (Option Addr)} {ρ:En} {σ:St} {H:Hp},(∀ i∈is,aX Z i)→ax K Z tm O ρ σ H→∃ O',ax K Z tm O' (is.foldl (fun ρ i=>match ρ[i]? with
 | some (some (t,true))=>ρ.set i (some (t,false))
 | _=>ρ) ρ) σ H
 | [],O,ρ,σ,H,_,I=>⟨O,I⟩
 | i :: is,O,ρ,σ,H,hp,I=>by
   rw [List.foldl_cons]
   have Rm:∀ j∈is,aX Z j:=fun j hj=>hp j (jC _ hj)
   split
   · rename_i t e
     exact ou is Rm (I.ue (hp i ij) e)
   · exact ou is Rm I
theorem Gb (is:List Nat) (h:lr X Z rest g) (hp:∀ i∈is,aX Z i):lr X Z rest (Tu is g):=.mk fun tm=>nH.uI (h tm) fun D σ H ⟨ρ,O,d,I,q,F⟩=>let ⟨O',I'⟩:=ou is hp I; ⟨_,O',d,I',q,F⟩
end
section
variable {X:Cx} {Z:Zc} {e a b:Expr} {es:List Expr} {pos apos bg:Pos}
theorem ax.root {K:PySem.W.Frag} {tm:List (T×V)} {O:List (Option Addr)} {ρ:En} {σ:St} {H:Hp} (I:ax K Z tm O ρ σ H) {k:Nat} {t:T} (e:ρ[k]?=some (some (t,true))):∃ a,O[k]?=some (some a)∧σ[k]?=some (some (.ref a))∧cz K H (av Z O) a t:=by
 obtain ⟨o,s,h1,h2,a,rfl,rfl,h3⟩:=I.sl k _ e
 exact ⟨a,h1,h2,h3⟩
def yJ (k:Nat) (g:FA) (p:List T→List T→(List T→T→Prop)→Prop):FX:=fun ρ Q=>match ρ[k]? with
 | some (some (.lst ts,true))=>g ρ fun vs=>p ts vs fun j0 r=>Q (ρ.set k (some (.lst j0,true))) (.vw r)
 | _=>False
def OH (K:PySem.W.Frag) (r:V→List V→Hp→VK→Prop) (p:List T→List T→(List T→T→Prop)→Prop):Prop :=
 ∀ (H:Hp) (A:List Addr) (l:Addr) (xs:List V) (ts us:List T) (vs:List V) (q:List T→T→Prop) (Q:VK),l∈A→H l=some (.lst xs)→aG K H A ts xs→aG K H A us vs→p ts us q →
  (∀ j0 t,q j0 t→∀ Ro v,aG K H A j0 Ro→At K H A t v→Q v (upd H l (.lst Ro)))→r (.ref l) vs H Q
theorem yK {r:V→List V→Hp→VK→Prop} {p:List T→List T→(List T→T→Prop)→Prop} (hm:OH X.K r p) {k:Nat} {g:FA} {tm:List (T×V)} {σ:St} {H:Hp} {Q:VK} (h:lX X Z tm (yJ k g p) σ H Q) :
  ∃ l,σ[k]?=some (some (.ref l))∧(∃ xs,eJ X.K H l xs)∧lA X Z tm g σ H fun vs H1=>r (.ref l) vs H1 Q:=by
 obtain ⟨ρ,O,q,I,hf,kk⟩:=h
 unfold yJ at hf
 split at hf
 · rename_i ts e0
   obtain ⟨l,h1,h2,xs,h3,h4⟩:=I.root e0
   refine ⟨l,h2,⟨xs,eJ.of h3⟩,ρ,O,_,I,hf,fun us SR vs H1 s1 a1=>?_⟩
   have J:=I.same s1
   have ha:l∈av Z O:=ll _ (aN.mpr (mW h1))
   refine hm H1 (av Z O) l xs ts us vs _ Q ha (s1 _ _ h3) (h4.same s1) a1 SR fun j0 t ht Ro v b1 b2=>?_
   exact kk _ _ ht O _ _ ⟨J.wrote e0 h1 ⟨Ro,aT,b1.wrote ha (s1 _ _ h3) rfl⟩,b2.wrote ha (s1 _ _ h3) rfl⟩
 · exact hf.elim
theorem dY (k:Nat) {x name:Str} {id:String} {p:Pos} {g:FA} {r:V→List V→Hp→VK→Prop} {pp:List T→List T→(List T→T→Prop)→Prop} (slot:Slot "list" name id) (KA:typeOf (.builtin id)=pure (.type "method_descriptor")) (hm:BB X id r) (ht:OH X.K r pp) (ha:VA X Z (e :: es) g)
  (hN:X.N[k]?=some x:=by rfl) (hv:rY X.env.scope x:=by first | exact Or.inl rfl | exact Or.inr (Or.inl rfl) | exact Or.inr (Or.inr rfl)) (hd:gg x:=by decide)
  (iB:ug x:=by decide) (eM:attributeBase (.Name x p) name X.env (eval (.Name x p) X.env)=eval (.Name x p) X.env:=by rfl)
  (n9:((backTo bg (starEach (e :: es) X.env)).all (fun x=>!x.1) && (backToKw bg (keywordEach [] X.env)).all (fun x=>x.1.isSome)
    && decide ((e :: es).length+([]:List Keyword).length+(if ([]:List Keyword).isEmpty then 0 else 1) < 30))=true:=by rfl)
  (eO:(apos.endLine == bg.line)=true:=by rfl) (hs:starEach (e :: es) X.env=(false,eval e X.env) :: starEach es X.env:=by rfl) (eQ:(backTo bg (starEach es X.env)).any (·.1)=false:=by rfl) :
  VX X Z (.Call (.Attribute (.Name x p) name apos) (e :: es) [] bg) (yJ k g pp):=.mk fun tm =>
 PE.weak (uy QS slot KA hm (cW hN hv hd iB) (ha tm) eM n9 eO hs eQ) fun σ H Q h =>
  let ⟨l,h1,h2,h3⟩:=yK ht h; ⟨.ref l,h1,.inl ⟨rfl,h2⟩,h3⟩
theorem Cs (k:Nat) {x name:Str} {id:String} {p:Pos} {r:V→List V→Hp→VK→Prop} {pp:List T→List T→(List T→T→Prop)→Prop} (slot:Slot "list" name id) (KA:typeOf (.builtin id)=pure (.type "method_descriptor")) (hm:BB X id r) (ht:OH X.K r pp)
  (hN:X.N[k]?=some x:=by rfl) (hv:rY X.env.scope x:=by first | exact Or.inl rfl | exact Or.inr (Or.inl rfl) | exact Or.inr (Or.inr rfl)) (hd:gg x:=by decide)
  (iB:ug x:=by decide) (eM:attributeBase (.Name x p) name X.env (eval (.Name x p) X.env)=eval (.Name x p) X.env:=by rfl)
  (eO:(apos.endLine == bg.line)=true:=by rfl):VX X Z (.Call (.Attribute (.Name x p) name apos) [] [] bg) (yJ k Cf pp):=.mk fun tm =>
 PE.weak (Kz QS slot KA hm (cW hN hv hd iB) eM eO) fun σ H Q h=>by
  obtain ⟨l,h1,h2,ρ,O,q,I,hf,kk⟩:=yK ht h
  exact ⟨.ref l,h1,.inl ⟨rfl,h2⟩,kk [] hf [] H (aK.refl H) aG.nil⟩
def yL (ts us:List T) (q:List T→T→Prop):Prop:=match us with
 | [t]=>ts.length < sizeLine∧q (ts ++ [t]) .bu
 | _=>False
theorem bb {K:PySem.W.Frag}:OH K yF yL:=by
 intro H A l xs ts us vs q Q hl hH h1 h2 hp k
 unfold yL at hp
 split at hp
 · obtain ⟨v,rfl,a⟩:=cK (aG.iff.mp h2)
   exact ⟨l,xs,v,rfl,rfl,hH,by rw [h1.length]; exact hp.1,k _ _ hp.2 _ _ (h1.append (aG.cons a aG.nil)) og⟩
 · exact hp.elim
def Tv (ts us:List T) (q:List T→T→Prop):Prop:=us=[]∧∃ t,ts[ts.length - 1]?=some t∧q ts.dropLast t
theorem aG.dropLast {K:PySem.W.Frag} {H:Hp} {A:List Addr} {ts:List T} {vs:List V} (h:aG K H A ts vs):aG K H A ts.dropLast vs.dropLast:=by
 rw [List.dropLast_eq_take,List.dropLast_eq_take,h.length]
 exact h.take _
theorem yM {K:PySem.W.Frag}:OH K Ob Tv:=by
 intro H A l xs ts us vs q Q hl hH h1 h2 hp k
 obtain ⟨rfl,t,e1,hq⟩:=hp
 have e:vs=[]:=by simpa only [aG] using h2
 obtain ⟨v,e2,a⟩:=h1.get e1
 exact ⟨l,xs,v,rfl,e,hH,by rw [h1.length]; exact e2,k _ _ hq _ _ h1.dropLast a⟩
def IE (k:Nat) (f fi:FE):FS:=fun d ρ=>match ρ[k]? with
 | some (some (.lst ts,true))=>f ρ fun v=>fi ρ fun i=>match i with
   | .int j=>∃ n,yC ts.length j=some n∧d.nx (ρ.set k (some (.lst (ts.set n v),true)))
   | _=>False
 | _=>False
theorem wL (k:Nat) {x:Str} {p:Pos} {f fi:FE} {i:Expr} {qg:Pos} (he:VE X Z e f) (hi:VR X Z i fi)
  (hN:X.N[k]?=some x:=by rfl) (hv:rY X.env.scope x:=by first | exact Or.inl rfl | exact Or.inr (Or.inl rfl) | exact Or.inr (Or.inr rfl)) (hd:gg x:=by decide)
  (iB:ug x:=by decide)
  (ha:∀ v,assign (.Subscript (.Name x p) i qg) X.env v=(do
    let ov ← holding [v] (eval (.Name x p) X.env)
    let iv ← holding [v,ov] (eval i X.env)
    standAt qg
    holding [v,ov,iv] (setItem ov iv v)
    release [v,ov,iv] []):=by intro _; rfl)
  (hs:swapsWithSole [.Subscript (.Name x p) i qg] e pos.line X.env=pure false:=by rfl) (hw:swappedStores [.Subscript (.Name x p) i qg] e X.env=pure none:=by rfl)
  (h1:(assignEach [.Subscript (.Name x p) i qg] X.env).map (·.2)=[assign (.Subscript (.Name x p) i qg) X.env]:=by rfl):VS X Z (.Assign [.Subscript (.Name x p) i qg] e pos) (IE k f fi):=.mk fun tm =>
 PS.weak (BR (he tm) (JW (cW hN hv hd iB) (hi tm) set_list ha) hs hw h1) fun D σ H ⟨ρ,O,d,I,q,F⟩=>by
  unfold IE at q
  split at q
  · rename_i ts e0
    obtain ⟨l,h1,h2,xs,h3,h4⟩:=I.root e0
    have ha:l∈av Z O:=ll _ (aN.mpr (mW h1))
    refine ⟨ρ,O,_,I,q,fun t ht v H1 s1 a1=>⟨.ref l,h2,ρ,O,_,I.same s1,ht,fun j hj w H2 s2 a2=>?_⟩⟩
    split at hj
    · obtain ⟨n,e1,hj⟩:=hj
      refine ⟨l,xs,_,n,rfl,a2.int,s2 _ _ (s1 _ _ h3),by rw [h4.length]; exact e1,?_⟩
      refine F.nx O _ σ _ (((I.same s1).same s2).wrote (t':=.lst (ts.set n t)) e0 h1 ⟨xs.set n v,aT,?_⟩) hj
      exact aG.wrote ha (s2 _ _ (s1 _ _ h3)) rfl (((h4.same s1).same s2).set n (a1.same s2))
    · exact hj.elim
  · exact q.elim
theorem ax.give {K:PySem.W.Frag} {tm:List (T×V)} {O:List (Option Addr)} {ρ:En} {σ:St} {H:Hp} (I:ax K Z tm O ρ σ H) {i:Nat} {t:T} (hp:aX Z i) (hi:ρ[i]?=some (some (t,true))):∃ a,σ[i]?=some (some (.ref a))∧iO K Z tm (O.set i none) (ρ.set i none) σ H (.fr t) (.ref a):=by
 obtain ⟨a,h1,h2,h3⟩:=I.root hi
 have ha:a∈roots O:=aN.mpr (mW h1)
 obtain ⟨o1,o2,o3⟩:=I.own a ha
 have J:=I.forget hp
 have J2:=I.ue hp hi
 have na:a∉roots (O.set i none):=fun z=>by
  obtain ⟨o,s,g1,g2,g3,v,g4,g5⟩:=J2.sl i (some (t,false)) (by rw [yq (by rw [← I.lO]; exact (fH.mp h1).1)])
  rw [h2] at g2
  cases g2
  cases g4
  have nn:a∉av Z (O.set i none):=by
   obtain ⟨u,eu,mu⟩:=h3.mut
   cases t with
   | lst ts=>simp only [At] at g5; obtain ⟨b,vs,eb,l,_⟩:=g5; cases eb; rcases l with l | ⟨oo,_,_,lk,_⟩
             · exact l.2
             · exact fun z2=>by
                have key:∀ (O:List (Option Addr)) (i:Nat),O[i]?=some (some a)→(roots O).Nodup→a∉roots (O.set i none):=by
                 intro O
                 induction O with
                 | nil=>intro i h; simp at h
                 | cons o O ih =>
                   intro i h nd
                   cases i with
                   | zero =>
                     have:o=some a:=by simpa using h
                     subst this
                     simp only [roots,Q3,nD,id] at nd ⊢
                     exact (qe.mp nd).1
                   | succ i =>
                     have h':O[i]?=some (some a):=by simpa using h
                     cases o with
                     | none=>simp only [roots,MW,nD,id] at nd ⊢; exact ih i h' nd
                     | some b =>
                       simp only [roots,MW,nD,id] at nd ⊢
                       rw [qe] at nd
                       intro z
                       rcases dD.mp z with z | z
                       · exact nd.1 (by rw [← z]; exact aN.mpr (mW h'))
                       · exact ih i h' nd.2 z
                rcases iw.mp z2 with z2 | z2
                · exact key O i h1 I.nd z2
                · exact o2 z2
   | dk ks ts=>simp only [At] at g5; obtain ⟨b,vs,eb,_,d,_⟩:=g5; cases eb; exact d.2
   | dt ks ts=>simp only [At] at g5; obtain ⟨b,vs,eb,_,d,_⟩:=g5; cases eb; exact d.2
   | ins C ns ts=>simp only [At] at g5; obtain ⟨b,dx,vs,eb,_,d,_⟩:=g5; cases eb; exact d.2
   | _=>exact h3.elim
  exact nn (ll _ z)
 have hP:Z.H0 a=none:=by
  rcases o1 with z | z
  · obtain ⟨p,Xp,rfl⟩:=yr.mp z
    have:=J.par p Xp
    exact absurd (aN.mpr (mW this)) na
  · exact z
 have sub:∀ b∈av (Z.ex a) (O.set i none),b∈av Z O:=fun b hb=>by
  rcases dc b hb with z | z
  · exact cb i b z
  · rw [z]; exact ll _ ha
 refine ⟨a,h2,a,rfl,⟨J.lσ,J.lO,fun j e h=>?_,J.nd,fun b hb=>?_,J.par,fun b hb=>?_,J.keep,fun p hp=>(I.nL p hp).bq sub⟩,h3.bq sub,hP,o2⟩
 · rcases get_set h with ⟨rfl,rfl,hl⟩ | ⟨ne,h⟩
   · obtain ⟨o,s,g1,g2,g3⟩:=J.sl j none (by rw [yq hl])
     exact ⟨o,s,g1,g2,g3⟩
   · obtain ⟨o,s,g1,g2,g3⟩:=I.sl j e h
     exact ⟨o,s,by rw [uk (Ne.symm ne)]; exact g1,g2,g3.map (fun _ _ q=>q.bq sub) fun _ _ _ q=>q.bq sub⟩
 · obtain ⟨q1,q2,q3⟩:=J.own b hb
   refine ⟨q1,fun z=>?_,q3⟩
   rcases dD.mp z with z | z
   · exact na (by rw [← z]; exact hb)
   · exact q2 z
 · rcases dD.mp hb with z | z
   · obtain ⟨u,eu,_⟩:=o3; rw [z,eu]; simp
   · exact I.ox b z
def IF (i:Nat):FX:=fun ρ Q=>match ρ[i]? with
 | some (some (t,true))=>Q (ρ.set i none) (.fr t)
 | some (some (t,false))=>Q ρ (.vw t)
 | _=>False
theorem jh (i:Nat) {x:Str} (hp:aX Z i) (hN:X.N[i]?=some x:=by rfl) (hv:rY X.env.scope x:=by first | exact Or.inl rfl | exact Or.inr (Or.inl rfl) | exact Or.inr (Or.inr rfl)) (hd:gg x:=by decide)
  (iB:ug x:=by decide):VX X Z (.Name x pos) (IF i):=.mk fun tm=>PE.weak (cW hN hv hd iB) fun σ H Q ⟨ρ,O,q,I,hf,k⟩=>by
 unfold IF at hf
 split at hf
 · rename_i t e
   obtain ⟨a,h1,h2⟩:=I.give hp e
   exact ⟨_,h1,k _ _ hf _ _ H h2⟩
 · rename_i t e
   obtain ⟨o,s,h1,h2,rfl,v,rfl,h3⟩:=I.sl i _ e
   exact ⟨v,h2,k _ _ hf O v H ⟨I,h3⟩⟩
 · exact hf.elim
end
theorem ax.uL {K:PySem.W.Frag} {Z:Zc} {tm V':List (T×V)} {O:List (Option Addr)} {ρ:En} {σ:St} {H:Hp} (I:ax K Z tm O ρ σ H) (h:∀ p∈V',At K H (av Z O) p.1 p.2):ax K Z V' O ρ σ H :=
 ⟨I.lσ,I.lO,I.sl,I.nd,I.own,I.par,I.ox,I.keep,h⟩
theorem iO.uL {K:PySem.W.Frag} {Z:Zc} {bJ tm:List (T×V)} {O:List (Option Addr)} {ρ:En} {σ:St} {H:Hp} {r:Rt} {v:V} (h:iO K Z (bJ ++ tm) O ρ σ H r v):iO K Z tm O ρ σ H r v:=by
 cases r with
 | vw t=>exact ⟨h.1.uL fun p hp=>h.1.nL p (lj _ hp),h.2⟩
 | fr t=>obtain ⟨a,e,I,q⟩:=h; exact ⟨a,e,I.uL fun p hp=>I.nL p (lj _ hp),q⟩
def Wk (K:PySem.W.Frag) (J:It) (bJ:List (T×V)) (ts:List T):Prop:=∀ H A,(∀ a∈A,H a≠none)→(∀ p∈bJ,At K H A p.1 p.2)→∀ i:Nat,
 (i < ts.length→J.go i H)∧(ts.length=i→J.stop i H)∧∀ t,ts[i]?=some t→∀ x H',J.M7 i H x H'→aK H H'∧At K H' A t x
abbrev FI:=En→(List T→Prop)→Prop
def lI (X:Cx) (Z:Zc) (tm:List (T×V)) (f:FI):TI:=fun σ H R=>∃ ρ O q,ax X.K Z tm O ρ σ H∧f ρ q∧∀ ts,q ts→∀ J H' bJ,aK H H'→(∀ p∈bJ,At X.K H' (av Z O) p.1 p.2)→Wk X.K J bJ ts→R J H'
def VI (X:Cx) (Z:Zc) (tg iter:Expr) (f:FI):Prop:=Bx fun tm=>PI X tg iter (lI X Z tm f)
instance {X:Cx} {Z:Zc} {tg iter:Expr} {f:FI}:CoeFun (VI X Z tg iter f) fun _=>∀ tm,PI X tg iter (lI X Z tm f):=⟨fun h=>Bx.h h⟩
theorem PI.weak {X:Cx} {tg e:Expr} {t t':TI} (h:PI X tg e t) (hw:∀ σ H R,t' σ H R→t σ H R):PI X tg e t':=fun pins s σ H R I q=>h pins s σ H R I (hw _ _ _ q)
theorem PG.weak {X:Cx} {tg:Expr} {t t':TG} (h:PG X tg t) (hw:∀ v σ H Q,t' v σ H Q→t v σ H Q):PG X tg t':=fun pins s σ H v u Q I r q=>h pins s σ H v u Q I r (hw _ _ _ _ q)
theorem BO.weak {X:Cx} {tg:List Expr} {t t':Fj} (h:BO X tg t) (hw:∀ v σ H Q,t' v σ H Q→t v σ H Q):BO X tg t':=fun pins s σ H v u Q I r q=>h pins s σ H v u Q I r (hw _ _ _ _ q)
def Tw (K:PySem.W.Frag) (tl:TE):TI:=fun σ H R=>tl σ H fun x H1=>(∃ a,x = .ref a∧(∃ xs,eJ K H1 a xs)∧R (Sz K a) H1)∨(∃ a,x = .ref a∧(∃ xs,dF K H1 a xs)∧R (SA K a) H1)∨∃ z,x = .str z∧R (Rl z) H1
section
variable {X:Cx} {Z:Zc} {tg:Expr}
theorem K2 {l:Expr} {tl:TE} (hl:PE X l tl):PI X tg l (Tw X.K tl):=by
 intro pins s σ H R I h
 refine bX (hl pins s σ H _ I h) fun v s1 ⟨x,H1,I1,r1,q1⟩=>?_
 rcases q1 with ⟨a,e,hq,q⟩ | ⟨a,e,hq,q⟩ | ⟨z,e,q⟩
 · subst e
   cases r1
   obtain ⟨xs,hq⟩:=hq
   obtain ⟨aP,rv,p,hz⟩:=I1.list hq
   refine wpAny_pyIter_list p.isList ?_
   refine ⟨s1.heap.objs.size,[s1.heap.objs.size],_,_,H1,rfl,I1.kept (t':=s1.toks) fun b o e=>de _ e,zG a _,⟨_,nE _ rfl,rfl,rfl⟩,fun b hb=>?_,q⟩
   have e:b=s1.heap.objs.size:=by simpa using hb
   subst e
   exact I1.qf (dX _) (I1.bC.fresh (dX _))
 · subst e
   cases r1
   obtain ⟨xs,hq⟩:=hq
   obtain ⟨aP,rv,p,hz⟩:=I1.tuple hq
   refine wpAny_pyIter_tuple (show s1.heap.IsTuple a aP.toArray from p) ?_
   refine ⟨s1.heap.objs.size,[s1.heap.objs.size],_,_,H1,rfl,I1.kept (t':=s1.toks) fun b o e=>de _ e,wo a _,⟨_,nE _ rfl,rfl,rfl⟩,fun b hb=>?_,q⟩
   have e:b=s1.heap.objs.size:=by simpa using hb
   subst e
   exact I1.qf (dX _) (I1.bC.fresh (dX _))
 · subst e
   obtain ⟨t,rfl⟩:=r1
   refine wpAny_pyIter_strU ?_
   have I2:Inv X pins σ H1 { s1 with heap:=s1.heap.push { cls:=.type (strIterType z),data:=.fields #[.str z t,.int 0 0] } }:=I1.kept (t':=s1.toks) fun b o e=>de _ e
   refine ⟨s1.heap.objs.size,[s1.heap.objs.size],_,_,H1,rfl,I2,Ca z t _,⟨_,nE _ rfl,rfl,rfl⟩,fun b hb=>?_,q⟩
   have e:b=s1.heap.objs.size:=by simpa using hb
   subst e
   exact I1.qf (dX _) I1.fresh
def Tx (f:FE):FI:=fun ρ Q=>f ρ fun t=>match t with
 | .lst ts=>Q ts
 | .tup ts=>Q ts
 | .str z=>Q (z.cps.toList.map fun c=>.str ⟨#[c]⟩)
 | _=>False
theorem Gd {K:PySem.W.Frag} {a:Addr} {ts:List T}:Wk K (Sz K a) [(.lst ts,.ref a)] ts:=fun H A hA h i=>by
 have h:=h _ ij
 simp only [At] at h
 obtain ⟨b,vs,e,l,q⟩:=h
 cases e
 have hl:=q.length
 refine ⟨fun hi=>⟨vs,vs[i]'(by omega),l.sq,by simp⟩,fun hi=>⟨vs,l.sq,by omega⟩,fun t ht x H' y=>?_⟩
 obtain ⟨rfl,y⟩:=y
 obtain ⟨v,e1,e2⟩:=q.get ht
 have:=y vs l.sq
 rw [e1] at this
 cases this
 exact ⟨aK.refl _,e2⟩
theorem K3 {K:PySem.W.Frag} {a:Addr} {ts:List T}:Wk K (SA K a) [(.tup ts,.ref a)] ts:=fun H A hA h i=>by
 have h:=h _ ij
 simp only [At] at h
 obtain ⟨b,vs,e,l,q⟩:=h
 cases e
 have hl:=q.length
 refine ⟨fun hi=>⟨vs,vs[i]'(by omega),l,by simp⟩,fun hi=>⟨vs,l,by omega⟩,fun t ht x H' y=>?_⟩
 obtain ⟨rfl,y⟩:=y
 obtain ⟨v,e1,e2⟩:=q.get ht
 have:=y vs l
 rw [e1] at this
 cases this
 exact ⟨aK.refl _,e2⟩
theorem K4 {K:PySem.W.Frag} {z:Str}:Wk K (Rl z) [] (z.cps.toList.map fun c=>T.str ⟨#[c]⟩):=fun H A hA h i=>by
 refine ⟨fun hi=>by rw [bZ,MV] at hi; exact hi,fun hi=>by rw [bZ,MV] at hi; exact Nat.le_of_eq hi,fun t ht x H' y=>?_⟩
 obtain ⟨rfl,c,hc,rfl⟩:=y
 rw [ly,Array.getElem?_toList,hc] at ht
 cases ht
 exact ⟨aK.refl _,cf⟩
theorem iT {l:Expr} {f:FE} (h:VE X Z l f):VI X Z tg l (Tx f):=.mk fun tm=>PI.weak (K2 (h tm)) fun σ H R ⟨ρ,O,q,I,hf,k⟩=>⟨ρ,O,_,I,hf,fun t ht v H' s a=>by
 split at ht
 · have a0:=a
   simp only [At] at a
   obtain ⟨p,vs,rfl,l,_⟩:=a
   exact .inl ⟨p,rfl,⟨vs,l.sq⟩,k _ ht _ H' _ s (fun p hp=>by rw [um.mp hp]; exact a0) Gd⟩
 · have a0:=a
   simp only [At] at a
   obtain ⟨p,vs,rfl,l,_⟩:=a
   exact .inr (.inl ⟨p,rfl,⟨vs,l⟩,k _ ht _ H' _ s (fun p hp=>by rw [um.mp hp]; exact a0) K3⟩)
 · have e:=a
   simp only [At] at e
   exact .inr (.inr ⟨_,e,k _ ht _ H' [] s (fun p hp=>nomatch hp) K4⟩)
 · exact ht.elim⟩
def rangeT (lo:Int) (n:Nat):List T:=(List.range n).map fun i=>T.int (lo+((i:Nat):Int))
theorem Ct {K:PySem.W.Frag} {lo:Int} {n:Nat}:Wk K (Rb lo n) [] (rangeT lo n):=fun H A hA h i=>by
 unfold rangeT
 refine ⟨fun hi=>by rw [bZ,EJ] at hi; exact hi,fun hi=>by rw [bZ,EJ] at hi; exact Nat.le_of_eq hi,fun t ht x H' y=>?_⟩
 obtain ⟨rfl,rfl⟩:=y
 rw [ly] at ht
 cases e:(List.range n)[i]? with
 | none=>rw [e] at ht; cases ht
 | some j =>
   rw [e] at ht
   have hj:j=i:=by
    have:=fH.mp e
    obtain ⟨h1,h2⟩:=this
    simpa using h2.symm
   subst hj
   cases ht
   exact ⟨aK.refl _,bE⟩
def Wa (ts:List T) (Q:List T→Prop):Prop:=match ts with
 | [.int j]=>-(2 ^ 62)≤j∧j < 2 ^ 62∧Q (rangeT 0 j.toNat)
 | _=>False
def K5 (g:FA) (p:List T→(List T→Prop)→Prop):FI:=fun ρ Q=>g ρ fun ts=>p ts Q
theorem cL {a:Expr} {g:FE} {p pos:Pos} (hg:Gl X "range") (hm:X.mg "range" = none) (ha:VR X Z a g) (hs:starEach [a] X.env=[(false,eval a X.env)]:=by rfl) :
  VI X Z tg (.Call (.Name "range" p) [a] [] pos) (K5 (uJ g Cf) Wa):=.mk fun tm=>PI.weak (zH hg hm ((ao ha aw hs) tm) hs) fun σ H R ⟨ρ,O,q,I,hf,k⟩=>⟨ρ,O,_,I,hf,fun ts gC vs H' s a=>by
 unfold Wa at gC
 split at gC
 · obtain ⟨v,rfl,a1⟩:=cK a
   exact ⟨_,by rw [a1.int],gC.1,gC.2.1,k _ gC.2.2 _ H' [] s (fun p hp=>nomatch hp) Ct⟩
 · exact gC.elim⟩
abbrev FG:=T→En→(En→Prop)→Prop
abbrev Ge:=List T→En→(En→Prop)→Prop
def lG (X:Cx) (Z:Zc) (tm:List (T×V)) (is:List Nat) (h:FG):TG:=fun v σ H Q=>∃ ρ O t q,ax X.K Z tm O ρ σ H∧At X.K H (av Z O) t v∧h t ρ q∧∀ ρ',q ρ'→∀ O' σ',ax X.K Z tm O' ρ' σ' H→(∀ a∈roots O',a∈roots O)→(∀ (j:Nat),j∉is→O'[j]?=O[j]?)→σ'.length=σ.length→(∀ (j:Nat),j∉is→σ'[j]?=σ[j]?)→Q σ' H
def Wb (X:Cx) (Z:Zc) (tm:List (T×V)) (is:List Nat) (h:Ge):Fj:=fun vs σ H Q=>∃ ρ O ts q,ax X.K Z tm O ρ σ H∧aG X.K H (av Z O) ts vs∧h ts ρ q∧∀ ρ',q ρ'→∀ O' σ',ax X.K Z tm O' ρ' σ' H→(∀ a∈roots O',a∈roots O)→(∀ (j:Nat),j∉is→O'[j]?=O[j]?)→σ'.length=σ.length→(∀ (j:Nat),j∉is→σ'[j]?=σ[j]?)→Q σ' H
def VG (X:Cx) (Z:Zc) (tg:Expr) (is:List Nat) (h:FG):Prop:=Bx fun tm=>PG X tg (lG X Z tm is h)
instance {X:Cx} {Z:Zc} {tg:Expr} {is:List Nat} {h:FG}:CoeFun (VG X Z tg is h) fun _=>∀ tm,PG X tg (lG X Z tm is h):=⟨fun h=>Bx.h h⟩
def OI (X:Cx) (Z:Zc) (Rp:List Expr) (is:List Nat) (h:Ge):Prop:=Bx fun tm=>BO X Rp (Wb X Z tm is h)
instance {X:Cx} {Z:Zc} {Rp:List Expr} {is:List Nat} {h:Ge}:CoeFun (OI X Z Rp is h) fun _=>∀ tm,BO X Rp (Wb X Z tm is h):=⟨fun h=>Bx.h h⟩
def hName (i:Nat):FG:=fun t ρ Q=>Q (ρ.set i (some (t,false)))
theorem aQ {i:Nat} {x:Str} {pos:Pos} (hN:X.N.Nodup) (hi:X.N[i]?=some x) (hx:Loc X.env.scope x) (hp:aX Z i) (hf:X.fn x=true∨X.env.scope.names.lookup x=some .local:=by first | exact .inl rfl | exact .inr rfl | assumption) :
  VG X Z (.Name x pos) [i] (hName i):=.mk fun tm=>PG.weak (Fl hN hi hx hf) fun v σ H Q ⟨ρ,O,t,q,I,a,h,k⟩ =>
 k _ h _ _ (I.put hp a) (cu i) (fun j hj=>uk (fun e=>hj (by simp [e]))) (by simp) fun j hj=>uk (fun e=>hj (by simp [e]))
def Tz:Ge:=fun ts ρ Q=>ts=[]∧Q ρ
def IG (h:FG) (hs:Ge):Ge:=fun ts ρ Q=>match ts with
 | t :: r=>h t ρ fun ρ'=>hs r ρ' Q
 | []=>False
def OJ (n:Nat) (h:Ge):FG:=fun t ρ Q=>match t with
 | .tup ts=>ts.length=n∧h ts ρ Q
 | _=>False
theorem eB:OI X Z [] [] Tz:=.mk fun tm=>BO.weak Fm fun vs σ H Q ⟨ρ,O,ts,q,I,a,h,k⟩=>by
 obtain ⟨rfl,h⟩:=h
 have e:vs=[]:=by simpa only [aG] using a
 exact ⟨e,k _ h O σ I (fun _ z=>z) (fun _ _=>rfl) rfl fun _ _=>rfl⟩
theorem bt {e:Expr} {es:List Expr} {is js:List Nat} {h:FG} {hs:Ge} (h1:VG X Z e is h) (h2:OI X Z es js hs)
  (Xq:(assignEach (e :: es) X.env).map (·.2)=assign e X.env :: (assignEach es X.env).map (·.2):=by rfl):OI X Z (e :: es) (is ++ js) (IG h hs):=.mk fun tm=>BO.weak (BP (h1 tm) (h2 tm) Xq) fun vs σ H Q ⟨ρ,O,ts,q,I,a,hh,k⟩=>by
 unfold IG at hh
 split at hh
 · simp only [aG] at a
   obtain ⟨v,r,rfl,a1,a2⟩:=a
   refine ⟨v,r,rfl,ρ,O,_,_,I,a1,hh,fun ρ' hρ O' σ' I' ro eo l e=>⟨ρ',O',_,q,I',a2.bq fun b hb=>?_,hρ,fun ρ2 h2 O2 σ2 I2 Xr Xs l2 e2=>k ρ2 h2 O2 σ2 I2 (fun a z=>ro a (Xr a z)) (fun j hj=>?_) (l2.trans l) fun j hj=>?_⟩⟩
   · rcases iw.mp hb with z | z
     · exact ll _ (ro b z)
     · exact lj _ z
   · rw [iw,not_or] at hj
     exact (Xs j hj.2).trans (eo j hj.1)
   · rw [iw,not_or] at hj
     exact (e2 j hj.2).trans (e j hj.1)
 · exact hh.elim
theorem gO {es:List Expr} {k:Nat} {is:List Nat} {h:Ge} {n:Nat} {pos:Pos} (hc:X.calm=true) (hh:OI X Z es is h)
  (hn:(assignEach es X.env).length=n:=by rfl) (BQ:(assignEach es X.env).findIdx? (·.1)=none:=by rfl):VG X Z (.Tuple es k pos) is (OJ n h):=.mk fun tm=>PG.weak (JV hc (hh tm) hn BQ) fun v σ H Q ⟨ρ,O,t,q,I,a,h',kk⟩=>by
 unfold OJ at h'
 split at h'
 · simp only [At] at a
   obtain ⟨p,vs,rfl,s,a⟩:=a
   exact ⟨p,vs,rfl,s,a.length.trans h'.1,ρ,O,_,q,I,a,h'.2,kk⟩
 · exact h'.elim
def TB (f:FE) (h:FG):FS:=fun d ρ=>f ρ fun t=>h t ρ d.nx
theorem Cu {tg e:Expr} {f:FE} {is:List Nat} {h:FG} {pos:Pos} (he:VE X Z e f) (hg:VG X Z tg is h) (hs:swapsWithSole [tg] e pos.line X.env=pure false:=by rfl) (hw:swappedStores [tg] e X.env=pure none:=by rfl)
  (h1:(assignEach [tg] X.env).map (·.2)=[assign tg X.env]:=by rfl):VS X Z (.Assign [tg] e pos) (TB f h):=.mk fun tm=>PS.weak (BR (he tm) (hg tm) hs hw h1) fun D σ H ⟨ρ,O,d,I,q,F⟩ =>
 ⟨ρ,O,_,I,q,fun t ht v H' s a=>⟨ρ,O,t,_,I.same s,a,ht,fun ρ' hρ O' σ' I' _ _ _ _=>F.nx O' ρ' σ' H' I' hρ⟩⟩
def uM (ts:List T) (h:FG) (g:FS):FS:=fun d ρ=>∃ Pv:Nat→En→Prop,Pv 0 ρ∧(∀ (i:Nat) t ρ',ts[i]?=some t→Pv i ρ'→h t ρ' fun ρ2=>g { nx:=Pv (i+1),ct:=Pv (i+1),bk:=d.nx,rt:=d.rt } ρ2)∧∀ ρ',Pv ts.length ρ'→d.nx ρ'
def TC (f:FI) (h:FG) (g:FS):FS:=fun d ρ=>f ρ fun ts=>uM ts h g d ρ
theorem dm {iter:Expr} {body:List Stmt} {f:FI} {is:List Nat} {h:FG} {g:FS} {pos:Pos} (hp:PassesOwn (model X.prog X.w) X.A X.env X.xe) (hc:X.calm=true) (hi:VI X Z tg iter f) (hg:VG X Z tg is h) (hb:lr X Z body g)
  (hs:∀ x,foldedSetIterable iter X.env x=pure x:=by intro _; rfl):VS X Z (.For tg iter body [] pos) (TC f h g):=by
 refine .mk fun tm pins s σ H D I0 hw=>?_
 obtain ⟨ρ,O,d,I,q,F⟩:=hw
 refine JY (wi:=lI X Z tm f) (g:=fun v σ H Q=>∃ bJ,lG X Z (bJ ++ tm) is h v σ H Q) (tb:=fun D σ H=>∃ bJ,lS X Z (bJ ++ tm) g D σ H) hp hc (hi tm) (fun pins s σ H v u Q I r ⟨bJ,z⟩=>hg (bJ ++ tm) pins s σ H v u Q I r z) (fun pins s σ H D I ⟨bJ,z⟩=>hb (bJ ++ tm) pins s σ H D I z) hs pins s σ H D I0 ?_
 refine ⟨ρ,O,_,I,q,fun ts gC J H' bJ s a wk=>?_⟩
 obtain ⟨Pv,p0,step,fin⟩:=gC
 have J0:ax X.K Z (bJ ++ tm) O ρ σ H':=(I.same s).uL fun p hp=>by
  rcases iw.mp hp with z | z
  · exact a p z
  · exact (I.same s).nL p z
 refine ⟨fun i m σ H=>m=ts.length - i∧i≤ts.length∧∃ ρ O,ax X.K Z (bJ ++ tm) O ρ σ H∧Pv i ρ,⟨ts.length,by simp,km _,ρ,O,J0,p0⟩,?_⟩
 rintro i m σ1 H1 ⟨rfl,hi,ρ1,O1,I1,p1⟩
 obtain ⟨w1,w2,w3⟩:=wk H1 (av Z O1) I1.KJ (fun p hp=>I1.nL p (ll _ hp)) i
 have un:∀ {O:List (Option Addr)} {ρ:En} {σ:St} {H:Hp},ax X.K Z (bJ ++ tm) O ρ σ H→ax X.K Z tm O ρ σ H:=fun I=>I.uL fun p hp=>I.nL p (lj _ hp)
 by_cases fz:i < ts.length
 · refine .inr ⟨w1 fz,fun σ' H'=>∃ ρ O,ax X.K Z (bJ ++ tm) O ρ σ' H'∧Pv (i+1) ρ,fun σ' H' ⟨ρ',O',I',p'⟩=>⟨ts.length - (i+1),by omega,rfl,fz,ρ',O',I',p'⟩,fun x H2 y=>?_⟩
   have e:ts[i]?=some ts[i]:=by simp [fz]
   obtain ⟨s2,a2⟩:=w3 ts[i] e x H2 y
   refine ⟨bJ,ρ1,O1,ts[i],_,I1.same s2,a2,step i _ ρ1 e p1,fun ρ2 h2 O2 σ2 I2 _ _ _ _=>⟨bJ,ρ2,O2,_,I2,h2,?_⟩⟩
   exact ⟨fun O ρ σ H I p=>⟨ρ,O,I,p⟩,fun O ρ σ H r v z p=>F.rt O ρ σ H r v z.uL p,fun O ρ σ H I p=>F.nx O ρ σ H (un I) p,fun O ρ σ H I p=>⟨ρ,O,I,p⟩⟩
 · have e:i=ts.length:=by omega
   subst e
   exact .inl ⟨w2 (rfl),F.nx O1 ρ1 σ1 H1 (un I1) (fin ρ1 p1)⟩
end
theorem dJ (O:List (Option Addr)) (n:Nat):roots (O ++ List.replicate n none)=roots O:=by
 unfold roots
 rw [List.filterMap_append]
 have:(List.replicate n (none:Option Addr)).filterMap id=[]:=by
  induction n with
  | zero=>rfl
  | succ n ih=>rw [Q0,nD]; exact ih
 rw [this,EL]
theorem ax.longer {K:PySem.W.Frag} {Z:Zc} {tm:List (T×V)} {O:List (Option Addr)} {ρ:En} {σ:St} {H:Hp} (I:ax K Z tm O ρ σ H) (n:Nat) {τ:St} (hτ:τ.length=n) :
  ax K Z tm (O ++ List.replicate n none) (ρ ++ List.replicate n none) (σ ++ τ) H:=by
 have ea:av Z (O ++ List.replicate n none)=av Z O:=by unfold av; rw [dJ]
 refine ⟨by simp [I.lσ,hτ],by simp [I.lO],fun i e h=>?_,by rw [dJ]; exact I.nd,fun a h=>I.own a (by rw [dJ] at h; exact h),fun p hp=>?_,I.ox,I.keep,fun p hp=>by rw [ea]; exact I.nL p hp⟩
 · rw [ea]
   by_cases hi:i < ρ.length
   · rw [uh hi] at h
     obtain ⟨o,s,h1,h2,h3⟩:=I.sl i e h
     exact ⟨o,s,by rw [uh (by rw [I.lO]; exact hi)]; exact h1,by rw [uh (by rw [I.lσ]; exact hi)]; exact h2,h3⟩
   · rw [BH (by omega),Js] at h
     split at h
     · rename_i hl
       cases h
       refine ⟨none,τ[i - σ.length]'(by rw [I.lσ,hτ]; exact hl),?_,?_,rfl⟩
       · rw [BH (by rw [I.lO]; omega),Js,if_pos (by rw [I.lO]; exact hl)]
       · rw [BH (by rw [I.lσ]; omega)]; simp
     · cases h
 · have:=I.par p hp
   have hl:=(fH.mp this).1
   rw [uh hl]; exact this
theorem ax.K6 {K:PySem.W.Frag} {Z:Zc} {tm:List (T×V)} {O:List (Option Addr)} {ρ:En} {σ:St} {H:Hp} {a:Addr} {u o:HO} (I:ax K (Z.ex a) tm O ρ σ H) (hu:H a=some u) (hm:uG u=true) (h0:Z.H0 a=none):ax K (Z.ex a) tm O ρ σ (upd H a o):=by
 have FZ:a∈av (Z.ex a) O:=lj _ ij
 have nr:∀ b∈roots O,b≠a:=fun b hb e=>(I.own b hb).2.1 (by rw [e]; exact ij)
 refine ⟨I.lσ,I.lO,fun i e h=>?_,I.nd,fun b hb=>?_,I.par,fun b hb=>?_,fun b o' e n=>?_,fun p hp=>(I.nL p hp).wrote FZ hu hm⟩
 · obtain ⟨o',s,h1,h2,h3⟩:=I.sl i e h
   refine ⟨o',s,h1,h2,h3.map (fun _ _ q=>q.wrote FZ hu hm) fun b t e q=>?_⟩
   subst e
   exact q.map (aE (nr b (aN.mpr (mW h1)))) fun _ _ z=>z.wrote FZ hu hm
 · obtain ⟨q1,q2,v,e,m⟩:=I.own b hb
   exact ⟨q1,q2,v,by rw [aE (nr b hb)]; exact e,m⟩
 · by_cases e:b=a
   · subst e; rw [aT]; simp
   · rw [aE e]; exact I.ox b hb
 · have:b≠a:=fun e'=>by
    subst e'
    have e2:Z.H0 b=some o':=e
    rw [h0] at e2; cases e2
   rw [aE this]; exact I.keep b o' e n
def cQ (h:FG) (fc:FB) (fe:FE) (ρ:En):List T→(List T→Prop)→Prop
 | [],Q=>Q []
 | t :: ts,Q=>h t ρ fun ρ2=>fc ρ2 fun b=>if b=true then fe ρ2 fun u=>cQ h fc fe ρ ts fun us=>Q (u :: us) else cQ h fc fe ρ ts Q
def yN (n:Nat) (is:List Nat) (f:FI) (h:FG) (fc:FB) (fe:FE):FP:=fun ρ Q=>(is.all fun j=>decide (ρ.length≤j))=true∧f ρ fun ts=>ts.length≤sizeLine∧cQ h fc fe (ρ ++ List.replicate n none) ts fun us=>Q (.fr (.lst us))
def M_ (X:Cx) (Z:Zc) (ifs:List Expr) (f:FB):Prop:=Bx fun tm=>B9 X ifs (lB X Z tm f)
instance {X:Cx} {Z:Zc} {ifs:List Expr} {f:FB}:CoeFun (M_ X Z ifs f) fun _=>∀ tm,B9 X ifs (lB X Z tm f):=⟨fun h=>Bx.h h⟩
def K7:FB:=fun _ Q=>Q true
theorem B9.weak {X:Cx} {e:List Expr} {t t':TT} (h:B9 X e t) (hw:∀ σ H Q,t' σ H Q→t σ H Q):B9 X e t':=fun pins s σ H Q I q=>h pins s σ H Q I (hw _ _ _ q)
section
variable {X:Cx} {Z:Zc}
theorem kC:M_ X Z [] K7:=.mk fun tm=>B9.weak FL fun σ H Q ⟨ρ,O,q,I,h,k⟩=>k true h H (aK.refl H)
theorem kD {c:Expr} {f:FB} (h:VC X Z c f):M_ X Z [c] f:=.mk fun tm=>FN (h tm)
def cG (X:Cx) (Z:Zc) (tm:List (T×V)) (is:List Nat) (h:FG):TG:=fun v σ H Q=>∃ D bJ,lG X (Z.ex D) (bJ ++ tm) is h v σ H Q
def cB (X:Cx) (Z:Zc) (tm:List (T×V)) (f:FB):TT:=fun σ H Q=>∃ D bJ,lB X (Z.ex D) (bJ ++ tm) f σ H Q
def cE (X:Cx) (Z:Zc) (tm:List (T×V)) (f:FE):TE:=fun σ H Q=>∃ D bJ,lE X (Z.ex D) (bJ ++ tm) f σ H Q
theorem K8 {K:PySem.W.Frag} {Z:Zc} {tm bJ:List (T×V)} {n:Nat} {O:List (Option Addr)} {ρ:En} {σ:St} {H1:Hp} {D:Addr} {J:It} {ts:List T} {h:FG} {fc:FB} {fe:FE} {is:List Nat} {q:Rt→Prop} {Q:VK} (X:Cx) (hK:X.K=K)
  (I:ax K Z (bJ ++ tm) O ρ σ H1) (hD:H1 D=none) (wk:Wk K J bJ ts) (hz:ts.length≤sizeLine) (Rq:∀ j∈is,ρ.length≤j)
  (hw:cQ h fc fe (ρ ++ List.replicate n none) ts fun us=>q (.fr (.lst us)))
  (k:∀ r,q r→∀ v H',aK H1 H'→iO K Z tm O ρ σ H' r v→Q v H') :
  uC J (cG X Z tm is h) (cB X Z tm fc) (cE X Z tm fe) n σ D (Q (.ref D)) H1:=by
 subst hK
 obtain ⟨n1,n2,n3⟩:=I.fresh hD
 refine ⟨fun i m acc H2=>m=ts.length - i∧i≤ts.length∧aK H1 H2∧H2 D=some (.lst acc)∧∃ us,aG X.K H2 (av (Z.ex D) O) us acc∧acc.length≤i∧ax X.K (Z.ex D) (bJ ++ tm) O ρ σ H2∧cQ h fc fe (ρ ++ List.replicate n none) (ts.drop i) fun r=>q (.fr (.lst (us ++ r))),
  ⟨ts.length,by simp,km _,aM hD,aT,[],aG.nil,km _,I.new hD rfl,by simpa using hw⟩,?_⟩
 rintro i m acc H2 ⟨rfl,hi,s2,FU,us,a2,hl,I2,w2⟩
 refine ⟨FU,?_⟩
 obtain ⟨w1,Xu,w3⟩:=wk H2 (av (Z.ex D) O) I2.KJ (fun p hp=>I2.nL p (ll _ hp)) i
 by_cases fz:i < ts.length
 · refine .inr ⟨w1 fz,by omega,fun x H3 y=>?_⟩
   have e:ts[i]?=some ts[i]:=by simp [fz]
   obtain ⟨s3,a3⟩:=w3 ts[i] e x H3 y
   rw [RZ fz] at w2
   have I3:=(I2.same s3).longer n (τ:=List.replicate n none) (by simp)
   have ea:av (Z.ex D) (O ++ List.replicate n none)=av (Z.ex D) O:=by unfold av; rw [dJ]
   refine ⟨D,bJ,_,_,ts[i],_,I3,by rw [ea]; exact a3,w2,fun ρ4 Xv O4 σ4 I4 Z3 Xw l4 e4=>⟨⟨?_,fun j v hj=>?_⟩,D,bJ,ρ4,O4,_,I4,Xv,fun b hb H5 s5=>?_⟩⟩
   · rw [l4]; simp
   · have OK:=(fH.mp hj).1
     have:j∉is:=fun z=>by have:=Rq j z; have:=I.lσ; omega
     rw [e4 j this,uh OK]; exact hj
   · have S5:=(s2.trans s3).trans s5
     have J5:=(I2.same s3).same s5
     cases b with
     | true =>
       rw [if_pos rfl] at hb
       refine Oj ⟨D,bJ,ρ4,O4,_,I4.same s5,hb,fun u hu y H6 s6 a6=>?_⟩
       have TF:=s6 _ _ (s5 _ _ (s3 _ _ FU))
       refine ⟨TF,ts.length - (i+1),by omega,rfl,fz,fun b o e=>?_,aT,us ++ [u],?_,by simp; omega,(J5.same s6).K6 TF rfl n3,?_⟩
       · rw [aE (aW e hD)]; exact s6 _ _ (S5 _ _ e)
       · have FZ:D∈av (Z.ex D) O:=lj _ ij
         have Xx:At X.K H6 (av (Z.ex D) O) u y:=a6.bq fun b hb=>by
          rcases iw.mp hb with z | z
          · obtain ⟨j,hj⟩:=Ju.mp (aN.mp z)
            have OK:=(fH.mp hj).1
            have nj:j∉is:=fun z=>by have:=Rq j z; have:=I.lO; omega
            have:=Xw j nj
            rw [uh OK,hj] at this
            exact ll _ (aN.mpr (mW this))
          · exact lj _ z
         exact aG.wrote FZ TF rfl ((((a2.same s3).same s5).same s6).append (aG.cons Xx aG.nil))
       · have e2:∀ r,(us ++ [u]) ++ r=us ++ (u :: r):=fun r=>by simp
         simp only [e2]
         exact hu
     | false =>
       rw [if_neg qa] at hb
       exact Oi ⟨ts.length - (i+1),by omega,rfl,fz,S5,s5 _ _ (s3 _ _ FU),us,(a2.same s3).same s5,by omega,J5,hb⟩
 · have e:i=ts.length:=by omega
   subst e
   refine .inl ⟨Xu (rfl),?_⟩
   rw [List.drop_length] at w2
   simp only [cQ,EL] at w2
   refine k _ w2 _ H2 s2 ⟨D,rfl,I2.uL fun p hp=>I2.nL p (lj _ hp),⟨acc,FU,a2⟩,n3,n2⟩
theorem yO {tm:List (T×V)} {n:Nat} {is:List Nat} {f:FI} {h:FG} {fc:FB} {fe:FE} {σ:St} {H:Hp} {Q:VK} (hq:lP X Z tm (yN n is f h fc fe) σ H Q):B_ n (lI X Z tm f) (cG X Z tm is h) (cB X Z tm fc) (cE X Z tm fe) σ H Q:=by
 obtain ⟨ρ,O,q,I,⟨Rq,hf⟩,k⟩:=hq
 refine ⟨ρ,O,_,I,hf,fun ts gC J H' bJ s a wk D hD=>?_⟩
 have I':ax X.K Z (bJ ++ tm) O ρ σ H':=(I.same s).uL fun p hp=>by
  rcases iw.mp hp with z | z
  · exact a p z
  · exact (I.same s).nL p z
 refine K8 X rfl I' hD wk gC.1 (fun j hj=>?_) gC.2 fun r hr v H2 s2 z=>k r hr v H2 (s.trans s2) z
 have:=zx.mp Rq j hj
 exact of_decide_eq_true this
variable {ts:List Str} {sc:Scope} {elt iter tg:Expr} {ifs:List Expr} {pos:Pos} {f:FI} {h:FG} {fc:FB} {fe:FE} {is:List Nat}
theorem ji (hc:X.calm=true) (hS:jU X.N ts X.env.scope sc=true) (hi:VI X Z tg iter f) (hg:∀ D cl C fp s H,VG (bo X ts sc cl C fp s H) (Z.ex D) tg is h) (ht:∀ D cl C fp s H,M_ (bo X ts sc cl C fp s H) (Z.ex D) ifs fc)
  (he:∀ D cl C fp s H,VE (bo X ts sc cl C fp s H) (Z.ex D) elt fe) (hs:∀ x,foldedSetIterable iter X.env x=pure x:=by intro _; rfl):VP X Z (.ListComp elt [⟨tg,iter,ifs,0⟩] sc pos) (yN ts.length is f h fc fe):=.mk fun tm =>
 PE.weak (FR hc hS (hi tm) (fun cl C fp s H pins s' σ H' v u Q I r ⟨D,bJ,z⟩=>hg D cl C fp s H (bJ ++ tm) pins s' σ H' v u Q I r z) (fun cl C fp s H pins s' σ H' Q I ⟨D,bJ,z⟩=>ht D cl C fp s H (bJ ++ tm) pins s' σ H' Q I z)
  (fun cl C fp s H pins s' σ H' Q I ⟨D,bJ,z⟩=>he D cl C fp s H (bJ ++ tm) pins s' σ H' Q I z) hs) fun σ H Q hq=>yO hq
theorem uN {i:Nat} {y:Str} {py uF:Pos} (hN:X.N.Nodup) (hy:X.N[i]?=some y) (hx:Loc X.env.scope y) (hc:X.calm=true) (hS:jU X.N ts X.env.scope sc=true) (hi:VI X Z tg iter f) (hg:∀ D cl C fp s H,VG (bo X ts sc cl C fp s H) (Z.ex D) tg is h)
  (ht:∀ D cl C fp s H,M_ (bo X ts sc cl C fp s H) (Z.ex D) ifs fc) (he:∀ D cl C fp s H,VE (bo X ts sc cl C fp s H) (Z.ex D) elt fe)
  (Ot:swapsWith (.ListComp elt [⟨tg,iter,ifs,0⟩] sc pos) (some (.Name y py)) uF.line X.env=pure true)
  (hs:∀ x,foldedSetIterable iter X.env x=pure x) (hf:X.fn y=true∨X.env.scope.names.lookup y=some .local) (tm:List (T×V)) :
  PS X (.Assign [.Name y py] (.ListComp elt [⟨tg,iter,ifs,0⟩] sc pos) uF) (Fo (lP X Z tm (yN ts.length is f h fc fe)) (ik i)) :=
 PS.weak (FT hN hy hx hc hS (hi tm) (fun cl C fp s H pins s' σ H' v u Q I r ⟨D,bJ,z⟩=>hg D cl C fp s H (bJ ++ tm) pins s' σ H' v u Q I r z) (fun cl C fp s H pins s' σ H' Q I ⟨D,bJ,z⟩=>ht D cl C fp s H (bJ ++ tm) pins s' σ H' Q I z)
  (fun cl C fp s H pins s' σ H' Q I ⟨D,bJ,z⟩=>he D cl C fp s H (bJ ++ tm) pins s' σ H' Q I z) Ot hs hf) fun D σ H hq=>yO hq
theorem nM {i:Nat} {y:Str} {py uF:Pos} (hN:X.N.Nodup) (hy:X.N[i]?=some y) (hx:Loc X.env.scope y) (hc:X.calm=true) (hS:jU X.N ts X.env.scope sc=true) (hi:VI X Z tg iter f) (hg:∀ D cl C fp s H,VG (bo X ts sc cl C fp s H) (Z.ex D) tg is h)
  (ht:∀ D cl C fp s H,M_ (bo X ts sc cl C fp s H) (Z.ex D) ifs fc) (he:∀ D cl C fp s H,VE (bo X ts sc cl C fp s H) (Z.ex D) elt fe) (hp:aX Z i)
  (Ot:swapsWith (.ListComp elt [⟨tg,iter,ifs,0⟩] sc pos) (some (.Name y py)) uF.line X.env=pure true:=by rfl)
  (hs:∀ x,foldedSetIterable iter X.env x=pure x:=by intro _; rfl) (hf:X.fn y=true∨X.env.scope.names.lookup y=some .local:=by first | exact .inl rfl | exact .inr rfl | assumption) :
  VS X Z (.Assign [.Name y py] (.ListComp elt [⟨tg,iter,ifs,0⟩] sc pos) uF) (OF i (fX (yN ts.length is f h fc fe))):=.mk fun tm =>
 PS.weak (uN hN hy hx hc hS hi hg ht he Ot hs hf tm) fun D σ H ⟨ρ,O,d,I,q,F⟩=>⟨ρ,O,_,I,q,fun r hr v H' s z=>F.nx _ _ _ H' (z.env.put hp z.at) hr⟩
theorem jj {h:FG} {fc:FB} {fe:FE} {ρ:En} {ts:List T} {Q:List T→Prop} (p:T→Bool) (u:T→T) (step:∀ t∈ts,∀ k:List T→Prop,∀ r:List T→Prop,(if p t=true then r [u t] else r [])→h t ρ fun ρ2=>fc ρ2 fun b=>if b=true then fe ρ2 fun x=>r [x] else r [])
  (hq:Q ((ts.filter p).map u)):cQ h fc fe ρ ts Q:=by
 induction ts generalizing Q with
 | nil=>exact hq
 | cons t ts ih =>
   have st:=step t ij (fun _=>True) (fun l=>match l with
    | [x]=>cQ h fc fe ρ ts fun us=>Q (x :: us)
    | _=>cQ h fc fe ρ ts Q)
   have rest:∀ {Q':List T→Prop},Q' ((ts.filter p).map u)→cQ h fc fe ρ ts Q':=fun hq=>ih (fun t ht=>step t (jC _ ht)) hq
   simp only [cQ]
   refine st ?_
   by_cases hp:p t=true
   · rw [if_pos hp]
     refine rest ?_
     rw [List.filter_cons_of_pos hp] at hq
     exact hq
   · rw [if_neg hp]
     refine rest ?_
     rw [List.filter_cons_of_neg hp] at hq
     exact hq
end
def dM (K:PySem.W.Frag) (H:Hp) (A:List Addr):List Bool→List Addr→List T→List V→Prop
 | [],as,ts,vs=>as=[]∧ts=[]∧vs=[]
 | false :: fs,as,ts,vs=>∃ t j0 v ki,ts=t :: j0∧vs=v :: ki∧At K H A t v∧dM K H A fs as j0 ki
 | true :: fs,as,ts,vs=>∃ a rj t j0 ki,as=a :: rj∧ts=t :: j0∧vs = .ref a :: ki∧cz K H A a t∧dM K H A fs rj j0 ki
def OL (K:PySem.W.Frag) (H:Hp) (as Ox:List Addr) (H':Hp) (us:List T):Rt→V→Prop
 | .vw t,v=>At K H' (as ++ Ox) t v∧Paired (fun a u=>cz K H' (as ++ Ox) a u) as us
 | .fr t,v=>∃ b,v = .ref b∧H b=none∧b∉as∧cz K H' (b :: (as ++ Ox)) b t∧Paired (fun a u=>cz K H' (b :: (as ++ Ox)) a u) as us
abbrev GT:=List T→(List T→Rt→Prop)→Prop
def qt (K:PySem.W.Frag) (fs:List Bool) (G:GT):Sp:=fun vs H Q _=>∃ ts as Ox q,as.Nodup∧(∀ a∈as,a∉Ox)∧(∀ a∈Ox,H a≠none)∧dM K H (as ++ Ox) fs as ts vs∧G ts q ∧
 ∀ us r,q us r→∀ v H',(∀ b o,H b=some o→b∉as→H' b=some o)→OL K H as Ox H' us r v→Q v H'
def ro:List Bool→List Addr→List (Option Addr)
 | [],_=>[]
 | false :: fs,as=>none :: ro fs as
 | true :: fs,a :: as=>some a :: ro fs as
 | true :: fs,[]=>none :: ro fs []
def pz:List Bool→List Addr→Nat→List (Nat×Addr)
 | [],_,_=>[]
 | false :: fs,as,k=>pz fs as (k+1)
 | true :: fs,a :: as,k=>(k,a) :: pz fs as (k+1)
 | true :: fs,[],k=>pz fs [] (k+1)
def sA:List Bool→List T→En
 | f :: fs,t :: ts=>some (t,f) :: sA fs ts
 | _,_=>[]
def lQ:List Bool→En→List T
 | [],_=>[]
 | false :: fs,ρ=>lQ fs ρ.tail
 | true :: fs,some (t,_) :: ρ=>t :: lQ fs ρ
 | true :: fs,ρ=>.bu :: lQ fs ρ.tail
section
variable {K:PySem.W.Frag} {H:Hp} {A:List Addr}
theorem eS:∀ {fs:List Bool} {as:List Addr} {ts:List T} {vs:List V},dM K H A fs as ts vs→ts.length=fs.length∧vs.length=fs.length∧(ro fs as).length=fs.length∧(sA fs ts).length=fs.length∧roots (ro fs as)=as
 | [],as,ts,vs,h=>by obtain ⟨rfl,rfl,rfl⟩:=h; exact ⟨rfl,rfl,rfl,rfl,rfl⟩
 | false :: fs,as,ts,vs,h=>by
   obtain ⟨t,j0,v,ki,rfl,rfl,_,h⟩:=h
   obtain ⟨h1,h2,h3,h4,h5⟩:=eS h
   exact ⟨by simp [h1],by simp [h2],by simp [ro,h3],by simp [sA,h4],by simpa [ro,roots] using h5⟩
 | true :: fs,as,ts,vs,h=>by
   obtain ⟨a,rj,t,j0,ki,rfl,rfl,rfl,_,h⟩:=h
   obtain ⟨h1,h2,h3,h4,h5⟩:=eS h
   refine ⟨by simp [h1],by simp [h2],by simp [ro,h3],by simp [sA,h4],?_⟩
   simp only [ro,roots,nD,id] at h5 ⊢
   rw [h5]
theorem ow:∀ {fs:List Bool} {as:List Addr} {ts:List T} {vs:List V},dM K H A fs as ts vs→∀ (i:Nat) e,(sA fs ts)[i]?=some e→∃ o s,(ro fs as)[i]?=some o∧(vs.map some)[i]?=some s∧oa K H A e o s
 | [],as,ts,vs,h,i,e,he=>by simp [sA] at he
 | false :: fs,as,ts,vs,h,i,e,he=>by
   obtain ⟨t,j0,v,ki,rfl,rfl,a,h⟩:=h
   cases i with
   | zero=>simp only [sA,QQ,Option.some.injEq] at he; subst he; exact ⟨none,some v,rfl,rfl,rfl,v,rfl,a⟩
   | succ i=>exact ow h i e (by simpa [sA] using he)
 | true :: fs,as,ts,vs,h,i,e,he=>by
   obtain ⟨a,rj,t,j0,ki,rfl,rfl,rfl,r,h⟩:=h
   cases i with
   | zero=>simp only [sA,QQ,Option.some.injEq] at he; subst he; exact ⟨some a,some (.ref a),rfl,rfl,a,rfl,rfl,r⟩
   | succ i=>exact ow h i e (by simpa [sA] using he)
theorem lU:∀ {fs:List Bool} {as:List Addr} {ts:List T} {vs:List V},dM K H A fs as ts vs→∀ a∈as,∃ t,cz K H A a t
 | [],as,ts,vs,h,a,ha=>by obtain ⟨rfl,rfl,rfl⟩:=h; cases ha
 | false :: fs,as,ts,vs,h,a,ha=>by obtain ⟨t,j0,v,ki,rfl,rfl,_,h⟩:=h; exact lU h a ha
 | true :: fs,as,ts,vs,h,a,ha=>by
   obtain ⟨b,rj,t,j0,ki,rfl,rfl,rfl,r,h⟩:=h
   rcases dD.mp ha with z | z
   · subst z; exact ⟨t,r⟩
   · exact lU h a z
theorem Cv:∀ {fs:List Bool} {as:List Addr} {ts:List T} {vs:List V} (k:Nat),dM K H A fs as ts vs→(pz fs as k).map (·.2)=as∧∀ p∈pz fs as k,k≤p.1∧(ro fs as)[p.1 - k]?=some (some p.2)
 | [],as,ts,vs,k,h=>by obtain ⟨rfl,rfl,rfl⟩:=h; exact ⟨rfl,fun _ z=>nomatch z⟩
 | false :: fs,as,ts,vs,k,h=>by
   obtain ⟨t,j0,v,ki,rfl,rfl,_,h⟩:=h
   obtain ⟨h1,h2⟩:=Cv (k+1) h
   refine ⟨h1,fun p hp=>?_⟩
   obtain ⟨l,e⟩:=h2 p hp
   refine ⟨by omega,?_⟩
   have:p.1 - k=(p.1 - (k+1))+1:=by omega
   rw [this]
   simpa [ro] using e
 | true :: fs,as,ts,vs,k,h=>by
   obtain ⟨a,rj,t,j0,ki,rfl,rfl,rfl,_,h⟩:=h
   obtain ⟨h1,h2⟩:=Cv (k+1) h
   refine ⟨by simp [pz,h1],fun p hp=>?_⟩
   rcases dD.mp hp with z | z
   · subst z; exact ⟨dX _,by simp [ro]⟩
   · obtain ⟨l,e⟩:=h2 p z
     refine ⟨by omega,?_⟩
     have:p.1 - k=(p.1 - (k+1))+1:=by omega
     rw [this]
     simpa [ro] using e
theorem sC {R:Addr→T→Prop} {ρ:En}:∀ {fs:List Bool} {as:List Addr} {ts:List T} {vs:List V} (k:Nat),dM K H A fs as ts vs→(∀ p∈pz fs as k,∃ t,ρ[p.1]?=some (some (t,true))∧R p.2 t)→Paired R as (lQ fs (ρ.drop k))
 | [],as,ts,vs,k,h,_=>by obtain ⟨rfl,rfl,rfl⟩:=h; exact .nil
 | false :: fs,as,ts,vs,k,h,q=>by
   obtain ⟨t,j0,v,ki,rfl,rfl,_,h⟩:=h
   have:=sC (k+1) h q
   simp only [lQ,List.tail_drop]
   exact this
 | true :: fs,as,ts,vs,k,h,q=>by
   obtain ⟨a,rj,t,j0,ki,rfl,rfl,rfl,_,h⟩:=h
   have:=sC (ρ:=ρ) (k+1) h fun p hp=>q p (jC _ hp)
   obtain ⟨u,e,r⟩:=q (k,a) ij
   have hk:k < ρ.length:=(fH.mp e).1
   have e2:ρ[k]=some (u,true):=by rw [kg hk] at e; exact Option.some.inj e
   rw [RZ hk,e2]
   exact .cons r this
end
theorem oy {X:Cx} {N:List Str} {fs:List Bool} {as Ox:List Addr} {ts:List T} {vs:List V} {H:Hp} {Q:VK} {q:List T→Rt→Prop} {g:FS} (nd:as.Nodup) (nx:∀ a∈as,a∉Ox) (ox:∀ a∈Ox,H a≠none) (ha:dM X.K H (as ++ Ox) fs as ts vs)
  (kk:∀ us r,q us r→∀ v H',(∀ b o,H b=some o→b∉as→H' b=some o)→OL X.K H as Ox H' us r v→Q v H')
  (hq:g { nx:=fun ρ=>q (lQ fs ρ) (.vw .bu),rt:=fun ρ r=>q (lQ fs ρ) r } (sA fs ts ++ List.replicate (N.length - ts.length) none)) :
  lS X ⟨H,pz fs as 0,Ox⟩ [] g { nx:=fun _ H'=>Q .bu H',rt:=Q } (start N vs) H:=by
 obtain ⟨K,eK⟩:∃ K,K=X.K:=⟨_,rfl⟩
 unfold lS
 rw [← eK] at ha kk ⊢
 obtain ⟨l1,l2,l3,l4,l5⟩:=eS ha
 obtain ⟨p1,p2⟩:=Cv 0 ha
 have ea:av ⟨H,pz fs as 0,Ox⟩ (ro fs as ++ List.replicate (N.length - ts.length) none)=as ++ Ox:=by unfold av; rw [dJ,l5]
 have Xy:∀ H0 P (O:List (Option Addr)),av ⟨H0,P,Ox⟩ O=roots O ++ Ox:=fun _ _ _=>rfl
 have I0:ax K ⟨H,pz fs as 0,Ox⟩ [] (ro fs as ++ List.replicate (N.length - ts.length) none) (sA fs ts ++ List.replicate (N.length - ts.length) none) (start N vs) H:=by
  refine ⟨?_,?_,fun i e he=>?_,by rw [dJ,l5]; exact nd,fun a h=>?_,fun p hp=>?_,ox,fun b o e _=>e,fun p hp=>nomatch hp⟩
  · unfold L2.start; simp [l2,l4,l1]
  · simp [l3,l4]
  · rw [ea]
    by_cases hi:i < fs.length
    · rw [uh (by rw [l4]; exact hi)] at he
      obtain ⟨o,s,h1,h2,h3⟩:=ow ha i e he
      refine ⟨o,s,by rw [uh (by rw [l3]; exact hi)]; exact h1,?_,h3⟩
      unfold L2.start
      rw [uh (by rw [bZ,l2]; exact hi)]; exact h2
    · rw [List.getElem?_append_right (by omega),Js] at he
      split at he
      · rename_i hl
        cases he
        refine ⟨none,none,?_,?_,rfl⟩
        · rw [BH (by omega),Js,if_pos (by rw [l3]; rw [l4] at hl; exact hl)]
        · unfold L2.start
          rw [BH (by rw [bZ]; omega),Js,bZ,if_pos (by rw [l2]; rw [l4,l1] at hl; exact hl)]
      · cases he
  · rw [dJ,l5] at h
    obtain ⟨t,r⟩:=lU ha a h
    exact ⟨.inl (by show a∈(pz fs as 0).map (·.2); rw [p1]; exact h),nx a h,r.mut⟩
  · obtain ⟨_,e⟩:=p2 p hp
    rw [Nat.sub_zero] at e
    rw [uh (fH.mp e).1]; exact e
 have fin:∀ {O:List (Option Addr)} {ρ:En} {σ:St} {H':Hp} {Z':Zc},Z'.P=pz fs as 0→ax K Z' [] O ρ σ H'→Paired (fun a u=>cz K H' (av Z' O) a u) as (lQ fs ρ):=fun {O ρ σ H' Z'} eP I=>by
  have:=sC (ρ:=ρ) (R:=fun a u=>cz K H' (av Z' O) a u) 0 ha fun p hp=>?_
  · rw [List.drop_zero] at this; exact this
  · have e:=I.par p (by rw [eP]; exact hp)
    have hl:=(fH.mp e).1
    have Sh:p.1 < ρ.length:=by rw [← I.lO]; exact hl
    obtain ⟨o,s',h1,h2,h3⟩:=I.sl p.1 ρ[p.1] (by simp)
    rw [e] at h1
    cases h1
    cases q:ρ[p.1] with
    | none=>rw [q] at h3; cases h3
    | some tb =>
      obtain ⟨t,b⟩:=tb
      rw [q] at h3
      cases b with
      | false=>cases h3.1
      | true =>
        obtain ⟨a',e1,_,r⟩:=h3
        cases e1
        exact ⟨t,by rw [← q]; simp,r⟩
 have keep:∀ {O:List (Option Addr)} {ρ:En} {σ:St} {H':Hp} {Z':Zc},Z'.H0=H→Z'.P=pz fs as 0→ax K Z' [] O ρ σ H'→∀ b o,H b=some o→b∉as→H' b=some o:=fun e0 eP I b o e n=>I.keep b o (by rw [e0]; exact e) (by rw [eP,p1]; exact n)
 have sub:∀ {O:List (Option Addr)} {ρ:En} {σ:St} {H':Hp} {Z':Zc},Z'.P=pz fs as 0→ax K Z' [] O ρ σ H'→∀ a∈as,a∈roots O:=fun eP I a h=>by
  have:a∈(pz fs as 0).map (·.2):=by rw [p1]; exact h
  obtain ⟨p,hp,rfl⟩:=yr.mp this
  exact aN.mpr (mW (I.par p (by rw [eP]; exact hp)))
 refine ⟨_,_,_,I0,hq,⟨fun O ρ σ H' I h=>?_,fun O ρ σ H' r v z h=>?_,fun _ _ _ _ _ h=>h.elim,fun _ _ _ _ _ h=>h.elim⟩⟩
 · have sb:∀ a∈as ++ Ox,a∈av ⟨H,pz fs as 0,Ox⟩ O:=fun a h=>by
    rcases iw.mp h with h | h
    · exact ll _ (sub rfl I a h)
    · exact lj _ h
   exact kk _ _ h .bu H' (keep rfl rfl I) ⟨og,Paired.mY (fin rfl I) fun _ _ q=>q.bq sb⟩
 · cases r with
   | vw t =>
     obtain ⟨I,a⟩:=z
     have sb:∀ a∈as ++ Ox,a∈av ⟨H,pz fs as 0,Ox⟩ O:=fun a h=>by
      rcases iw.mp h with h | h
      · exact ll _ (sub rfl I a h)
      · exact lj _ h
     exact kk _ _ h v H' (keep rfl rfl I) ⟨a.bq sb,Paired.mY (fin rfl I) fun _ _ q=>q.bq sb⟩
   | fr t =>
     obtain ⟨b,rfl,I,hR,h0,hx⟩:=z
     have sb:∀ a∈b :: (as ++ Ox),a∈av (Zc.ex ⟨H,pz fs as 0,Ox⟩ b) O:=fun a h=>by
      rcases dD.mp h with h | h
      · rw [h]; exact lj _ ij
      · rcases iw.mp h with h | h
        · exact ll _ (sub rfl I a h)
        · exact lj _ (jC _ h)
     exact kk _ _ h (.ref b) H' (keep rfl rfl I) ⟨b,rfl,h0,fun hb=>(I.own b (sub rfl I b hb)).2.1 ij,hR.bq sb,Paired.mY (fin rfl I) fun _ _ q=>q.bq sb⟩
section
variable {P:Program} {w:World} {K:PySem.W.Frag} {mg:Str→Option Value} {base:Heap}
theorem TH {x qual:Str} {st:Stmt} {f:Addr} {fd:FuncData} {N ps:List Str} {k:Nat} {fs:List Bool} {G:GT} (F:BC K x qual st f fd) (S:aI N ps (aj st)) (TJ:fs.length=ps.length)
  (iJ:∀ (bD:Value) (A:Around) (outer:List Env) (s:Shared) (H:Hp) (E:XK) (as Ox:List Addr),bp k (A.deeper (envOfC qual (aj st) s.heap.objs.size f bD))→∀ ts q,ts.length=fs.length→G ts q →
    ∃ g,lr (dI iN P w K mg base N qual (aj st) f bD A outer s H E).nI ⟨H,pz fs as 0,Ox⟩ (cx st) g∧g { nx:=fun ρ=>q (lQ fs ρ) (.vw .bu),rt:=fun ρ r=>q (lQ fs ρ) r } (sA fs ts ++ List.replicate (N.length - ts.length) none)) :
  cN P w K mg base iN (k+1) f fd ps (qt K fs G):=by
 refine F.ok S (fun vs H Q E h=>?_) (fun bD A outer s H vs Q E hr h=>?_)
 · obtain ⟨ts,as,Ox,q,_,_,_,ha,_⟩:=h
   rw [← TJ]; exact (eS ha).2.1
 · obtain ⟨ts,as,Ox,q,nd,nx,ox,ha,hG,kk⟩:=h
   have l1:=(eS ha).1
   obtain ⟨g,hg,hq⟩:=iJ bD A outer s H E as Ox hr ts q l1 hG
   exact ⟨_,hg [],oy nd nx ox ha kk hq⟩
end
def bW (K:PySem.W.Frag) (n:Nat) (G:List T→(Rt→Prop)→Prop):Sp:=qt K (List.replicate n false) fun ts q=>G ts (q [])
section
variable {K:PySem.W.Frag} {H:Hp} {A:List Addr}
theorem dN:∀ {n:Nat} {ts:List T} {vs:List V},ts.length=n→aG K H A ts vs→dM K H A (List.replicate n false) [] ts vs
 | 0,ts,vs,l,h=>by
   have e:ts=[]:=QR.mp l
   subst e
   simp only [aG] at h
   exact ⟨rfl,rfl,h⟩
 | n+1,ts,vs,l,h=>by
   cases ts with
   | nil=>simp at l
   | cons t ts =>
     simp only [aG] at h
     obtain ⟨v,r,rfl,h1,h2⟩:=h
     exact ⟨t,ts,v,r,rfl,rfl,h1,dN (by simpa using l) h2⟩
end
theorem ax.IH {K:PySem.W.Frag} {Z:Zc} {tm:List (T×V)} {O:List (Option Addr)} {ρ:En} {σ:St} {H H':Hp} (I:ax K Z tm O ρ σ H) {a:Addr} (h:H a=none) (s:aK H H') {u:HO} (hu:H' a=some u):ax K (Z.ex a) tm O ρ σ H':=by
 have J:=I.same s
 obtain ⟨n1,n2,n3⟩:=I.fresh h
 have mr:∀ b∈av (Z.ex a) O,b∈av Z O∨H b=none:=fun b hb=>(dc b hb).imp id fun e=>by rw [e]; exact h
 have fw:∀ {t:T} {v:V},At K H (av Z O) t v→At K H' (av (Z.ex a) O) t v:=fun q=>(q.more mr).same s
 refine ⟨J.lσ,J.lO,fun i e hi=>?_,J.nd,fun b hb=>?_,J.par,fun b hb=>?_,J.keep,fun p hp=>fw (I.nL p hp)⟩
 · obtain ⟨o,w,h1,h2,h3⟩:=I.sl i e hi
   refine ⟨o,w,h1,h2,h3.map (fun _ _ q=>fw q) fun b t eo q=>?_⟩
   exact cz.same (q.map rfl fun _ _ z=>z.more mr) s
 · obtain ⟨q1,q2,q3⟩:=J.own b hb
   refine ⟨q1,fun z=>?_,q3⟩
   rcases dD.mp z with z | z
   · exact n1 (by rw [← z]; exact ll _ hb)
   · exact q2 z
 · rcases dD.mp hb with z | z
   · rw [z,hu]; simp
   · exact J.ox b z
def K9 (n:Nat) (g:FA) (G:List T→(Rt→Prop)→Prop):FP:=fun ρ Q=>g ρ fun ts=>ts.length=n∧G ts Q
def K_:Rt→Bool
 | .vw t=>qq t
 | .fr (.lst ts)=>Cc ts
 | _=>false
def K' (n:Nat) (g:FA) (G:List T→(Rt→Prop)→Prop):FP:=fun ρ Q=>g ρ fun ts=>ts.length=n∧G ts fun r=>K_ r=true∧Q r
section
variable {X:Cx} {Z:Zc} {k n:Nat} {f:Addr} {fd:FuncData} {ps:List Str} {G:List T→(Rt→Prop)→Prop} {x:Str} {p pos:Pos} {e:Expr} {es:List Expr} {g:FA}
theorem yP {tm:List (T×V)} {O:List (Option Addr)} {ρ:En} {σ:St} {H:Hp} {ts:List T} {vs:List V} {q:Rt→Prop} {Q:VK} (I:ax X.K Z tm O ρ σ H) (a:aG X.K H (av Z O) ts vs) (hn:ts.length=n) (hG:G ts q)
  (k:∀ r,q r→∀ v H',aK H H'→iO X.K Z tm O ρ σ H' r v→Q v H'):bW X.K n G (vs ++ []) H Q E0:=by
 rw [EL]
 refine ⟨ts,[],av Z O,fun _ r=>q r,JB,fun _ z=>absurd z d8,I.KJ,dN hn a,hG,fun us r hr v H' fr z=>?_⟩
 have s:aK H H':=fun b o e=>fr b o e d8
 cases r with
 | vw t=>exact k _ hr v H' s ⟨I.same s,z.1⟩
 | fr t =>
   obtain ⟨b,rfl,hb,_,hR,_⟩:=z
   obtain ⟨n1,n2,n3⟩:=I.fresh hb
   obtain ⟨u,eu,_⟩:=hR.mut
   refine k _ hr _ H' s ⟨b,rfl,I.IH hb s eu,hR.bq fun c hc=>?_,n3,n2⟩
   rcases dc c hc with z | z
   · exact jC _ z
   · rw [z]; exact ij
theorem aL (F:cN X.prog X.w X.K X.mg X.base iN k f fd ps (bW X.K n G)) (hr:bp k X.A) (hg:Gl X x) (hm:X.mg x=some (.ref f)) (hk:PySem.W.keepIn X.K (.ref f)=true) (hb:Binds X.K fd ps []) (ha:VA X Z (e :: es) g)
  (n6:gg x:=by decide) (he:starEach (e :: es) X.env=(false,eval e X.env) :: starEach es X.env:=by rfl) (fE:(backTo pos (starEach es X.env)).any (·.1)=false:=by rfl) :
  VP X Z (.Call (.Name x p) (e :: es) [] pos) (K9 n g G):=.mk fun tm=>PE.weak (ku F hr hg hm hk hb .nil uA (ha tm) n6 he fE) fun σ H Q ⟨ρ,O,q,I,hf,k⟩ =>
 ⟨ρ,O,_,I,hf,fun ts gC vs H1 s1 a1=>yP (I.same s1) a1 gC.1 gC.2 fun r hr v H' s z=>k r hr v H' (s1.trans s) z⟩
theorem gk (F:cN X.prog X.w X.K X.mg X.base iN k f fd ps (bW X.K n G)) (hr:bp k X.A) (hg:Gl X x) (hm:X.mg x=some (.ref f)) (hk:PySem.W.keepIn X.K (.ref f)=true) (hb:Binds X.K fd ps []) (ha:EU X Z (e :: es) g)
  (n6:gg x:=by decide) (he:starEach (e :: es) X.env=(false,eval e X.env) :: starEach es X.env:=by rfl) (fE:(backTo pos (starEach es X.env)).any (·.1)=false:=by rfl) :
  VP X Z (.Call (.Name x p) (e :: es) [] pos) (K' n g G):=.mk fun tm=>PE.weak (ku F hr hg hm hk hb .nil uA (ha tm) n6 he fE) fun σ H Q ⟨ρ,O,q,I,hf,k⟩ =>
 ⟨ρ,O,_,I,hf,fun ts gC vs H1 s1 a1=>by
   show bW X.K n G (vs ++ []) H1 Q E0
   rw [EL]
   have J:=I.same s1
   have a2:aG X.K H1 [] ts vs:=aG.iff.mpr (Paired.mY a1 fun _ _ z=>z.bare)
   refine ⟨ts,[],[],fun _ r=>K_ r=true∧q r,JB,fun _ z=>absurd z d8,fun _ z=>absurd z d8,dN gC.1 a2,gC.2,fun us r ⟨hi,hr⟩ v H' fr z=>?_⟩
   have s:aK H1 H':=fun b o e=>fr b o e d8
   cases r with
   | vw t=>exact k _ hr v H' (s1.trans s) ⟨J.same s,At.qq hi z.1⟩
   | fr t =>
     obtain ⟨b,rfl,hb,_,hR,_⟩:=z
     obtain ⟨n1,n2,n3⟩:=J.fresh hb
     obtain ⟨u,eu,_⟩:=hR.mut
     cases t with
     | lst ts =>
       obtain ⟨ws,e1,e2⟩:=hR
       exact k _ hr _ H' (s1.trans s) ⟨b,rfl,J.IH hb s eu,⟨ws,e1,aG.qq hi e2⟩,n3,n2⟩
     | _=>exact absurd hi (by simp [K_])⟩
end
def AM (K:PySem.W.Frag) (H:Hp) (A:List Addr) (O:List (Option Addr)) (ρ:En):List (Option Nat)→List T→List V→Prop
 | [],ts,vs=>ts=[]∧vs=[]
 | none :: ms,ts,vs=>∃ t j0 v ki,ts=t :: j0∧vs=v :: ki∧At K H A t v∧AM K H A O ρ ms j0 ki
 | some k :: ms,ts,vs=>∃ a t j0 ki,ts=t :: j0∧vs = .ref a :: ki∧ρ[k]?=some (some (t,true))∧O[k]?=some (some a)∧AM K H A O ρ ms j0 ki
def Wc (X:Cx) (Z:Zc) (tm:List (T×V)) (ms:List (Option Nat)) (f:FA):TA:=fun σ H Q=>∃ ρ O q,ax X.K Z tm O ρ σ H∧f ρ q∧∀ ts,q ts→∀ vs H',aK H H'→AM X.K H' (av Z O) O ρ ms ts vs→Q vs H'
def La (X:Cx) (Z:Zc) (es:List Expr) (ms:List (Option Nat)) (f:FA):Prop:=Bx fun tm=>PA X es (Wc X Z tm ms f)
instance {X:Cx} {Z:Zc} {es:List Expr} {ms:List (Option Nat)} {f:FA}:CoeFun (La X Z es ms f) fun _=>∀ tm,PA X es (Wc X Z tm ms f):=⟨fun h=>Bx.h h⟩
def Cw (i:Nat):FE:=fun ρ Q=>match ρ[i]? with
 | some (some (t,true))=>Q t
 | _=>False
section
variable {X:Cx} {Z:Zc} {e:Expr} {es:List Expr} {g:FA}
theorem sD:La X Z [] [] Cf:=.mk fun tm=>PA.weak cX fun σ H Q ⟨ρ,O,q,I,hf,k⟩=>k _ hf [] H (aK.refl H) ⟨rfl,rfl⟩
theorem iU {ms:List (Option Nat)} {f:FE} (h:VE X Z e f) (h':La X Z es ms g) (hs:starEach (e :: es) X.env=(false,eval e X.env) :: starEach es X.env:=by rfl):La X Z (e :: es) (none :: ms) (uJ f g) :=
 .mk fun tm=>PA.weak (bw (h tm) (h' tm) hs) fun σ H Q ⟨ρ,O,q,I,hf,k⟩=>⟨ρ,O,_,I,hf,fun t ht v H1 s1 a1=>⟨ρ,O,_,I.same s1,ht,fun ts gC vs H2 s2 a2=>k _ gC _ H2 (s1.trans s2) ⟨t,ts,v,vs,rfl,rfl,a1.same s2,a2⟩⟩⟩
theorem nN (j:Nat) {ms:List (Option Nat)} {y:Str} {py:Pos} (h':La X Z es ms g) (hN:X.N[j]?=some y:=by rfl) (hv:rY X.env.scope y:=by first | exact Or.inl rfl | exact Or.inr (Or.inl rfl) | exact Or.inr (Or.inr rfl)) (hd:gg y:=by decide)
  (iB:ug y:=by decide) (hs:starEach (.Name y py :: es) X.env=(false,eval (.Name y py) X.env) :: starEach es X.env:=by rfl):La X Z (.Name y py :: es) (some j :: ms) (uJ (Cw j) g) :=
 .mk fun tm=>PA.weak (bw (cW hN hv hd iB) (h' tm) hs) fun σ H Q ⟨ρ,O,q,I,hf,k⟩=>by
  have II:Cw j ρ fun t=>g ρ fun ts=>q (t :: ts):=hf
  unfold Cw at II
  split at II
  · rename_i t e0
    obtain ⟨a,h1,h2,h3⟩:=I.root e0
    exact ⟨.ref a,h2,ρ,O,_,I,II,fun ts gC vs H2 s2 a2=>k _ gC _ H2 s2 ⟨a,t,ts,vs,rfl,rfl,e0,h1,a2⟩⟩
  · exact II.elim
end
def putK:List Nat→List T→En→En
 | k :: ks,u :: us,ρ=>putK ks us (ρ.set k (some (u,true)))
 | _,_,ρ=>ρ
theorem oz:∀ (ks:List Nat) (us:List T) (ρ:En),(putK ks us ρ).length=ρ.length
 | [],_,_=>rfl
 | _ :: _,[],_=>rfl
 | k :: ks,u :: us,ρ=>by rw [putK,oz]; simp
theorem uO:∀ {ks:List Nat} {us:List T} {ρ:En} {i:Nat} {e:Option (T×Bool)},ks.Nodup→ks.length=us.length→(putK ks us ρ)[i]?=some e→(i∉ks∧ρ[i]?=some e)∨∃ (j:Nat) (u:T),ks[j]?=some i∧us[j]?=some u∧e=some (u,true)
 | [],us,ρ,i,e,_,_,h=>.inl ⟨d8,h⟩
 | k :: ks,[],ρ,i,e,_,l,h=>by simp at l
 | k :: ks,u :: us,ρ,i,e,nd,l,h=>by
   rw [qe] at nd
   rcases uO nd.2 (by simpa using l) (show (putK ks us (ρ.set k (some (u,true))))[i]?=some e from h) with ⟨h1,h2⟩ | ⟨j,u',h1,h2,h3⟩
   · rcases get_set h2 with ⟨rfl,rfl,_⟩ | ⟨ne,h2⟩
     · exact .inr ⟨0,u,rfl,rfl,rfl⟩
     · exact .inl ⟨fun z=>by rcases dD.mp z with z | z; exact ne z; exact h1 z,h2⟩
   · exact .inr ⟨j+1,u',by simpa using h1,by simpa using h2,h3⟩
section
variable {K:PySem.W.Frag} {H H':Hp} {A:List Addr}
theorem At.Lb {as:List Addr} {t:T} {v:V} (fr:∀ b o,H b=some o→b∉as→H' b=some o) (sub:∀ a∈as,a∈A) (mu:∀ a∈as,∃ u,H a=some u∧uG u=true) (h:At K H A t v):At K H' A t v:=by
 refine At.map (fun b vs q=>?_) (fun b vs q=>?_) (fun b aZ q=>?_) h
 · rcases q with q | q
   · refine .inl ⟨?_,q.2⟩
     have nb:b∉as:=fun z=>q.2 (sub b z)
     rcases q.1 with z | ⟨o',z⟩
     · exact .inl (fr _ _ z nb)
     · exact .inr ⟨o',fr _ _ z nb⟩
   · exact .inr q
 · rcases q with z | z
   · refine .inl ?_
     have nb:b∉as:=fun m=>by
      obtain ⟨u,eu,mu⟩:=mu b m
      rcases z with z | ⟨o',z⟩
      · rw [z] at eu; cases eu; cases mu
      · rw [z] at eu; cases eu; cases mu
     rcases z with z | ⟨o',z⟩
     · exact .inl (fr _ _ z nb)
     · exact .inr ⟨o',fr _ _ z nb⟩
   · exact .inr z
 · exact ⟨fr _ _ q.1 fun z=>q.2 (sub b z),q.2⟩
theorem AM.args {A':List Addr} {O:List (Option Addr)} {ρ:En} (sub:∀ a∈A',a∈A) (hr:∀ (k:Nat) t,ρ[k]?=some (some (t,true))→∃ a,O[k]?=some (some a)∧cz K H A a t):∀ {ms:List (Option Nat)} {ts:List T} {vs:List V},AM K H A O ρ ms ts vs →
  ∃ as,dM K H A' (ms.map Option.isSome) as ts vs∧Paired (fun a k=>O[k]?=some (some a)) as (ms.filterMap id)
 | [],ts,vs,h=>⟨[],⟨rfl,h.1,h.2⟩,.nil⟩
 | none :: ms,ts,vs,h=>by
   obtain ⟨t,j0,v,ki,rfl,rfl,a,h⟩:=h
   obtain ⟨as,h1,h2⟩:=AM.args sub hr h
   exact ⟨as,⟨t,j0,v,ki,rfl,rfl,a.bq sub,h1⟩,h2⟩
 | some k :: ms,ts,vs,h=>by
   obtain ⟨a,t,j0,ki,rfl,rfl,e0,e1,h⟩:=h
   obtain ⟨as,h1,h2⟩:=AM.args sub hr h
   obtain ⟨a',e2,r⟩:=hr k t e0
   rw [e1] at e2
   cases e2
   exact ⟨a :: as,⟨a,as,t,j0,ki,rfl,rfl,rfl,r.bq sub,h1⟩,.cons e1 h2⟩
end
def Lc (ms:List (Option Nat)) (g:FA) (G:GT):FX:=fun ρ Q=>g ρ fun ts=>G ts fun us r=>Q (putK (ms.filterMap id) us ρ) r
section
variable {X:Cx} {Z:Zc} {k:Nat} {f:Addr} {fd:FuncData} {ps:List Str} {fs:List Bool} {G:GT} {x:Str} {p pos:Pos} {e:Expr} {es:List Expr} {g:FA} {ms:List (Option Nat)}
theorem IJ {K:PySem.W.Frag} {tm:List (T×V)} {O:List (Option Addr)} {ρ:En} {σ:St} {H:Hp} (I:ax K Z tm O ρ σ H) {i j:Nat} {a:Addr} (h1:O[i]?=some (some a)) (h2:O[j]?=some (some a)):i=j:=by
 have key:∀ (O:List (Option Addr)) (i j:Nat),i < j→O[i]?=some (some a)→O[j]?=some (some a)→(roots O).Nodup→False:=by
  intro O
  induction O with
  | nil=>intro i j _ h; simp at h
  | cons o O ih =>
    intro i j FY e1 e2 nd
    cases j with
    | zero=>omega
    | succ j =>
      have ES:O[j]?=some (some a):=by simpa using e2
      cases i with
      | zero =>
        have:o=some a:=by simpa using e1
        subst this
        simp only [roots,nD,id] at nd
        exact (qe.mp nd).1 (aN.mpr (mW ES))
      | succ i =>
        refine ih i j (by omega) (by simpa using e1) ES ?_
        cases o with
        | none=>simpa [roots] using nd
        | some b=>simp only [roots,nD,id] at nd; exact (qe.mp nd).2
 rcases Nat.lt_trichotomy i j with l | l | l
 · exact (key O i j l h1 h2 I.nd).elim
 · exact l
 · exact (key O j i l h2 h1 I.nd).elim
theorem eU {α β:Type} {F:α→β→Prop}:∀ {l₁:List α} {l₂:List β} {a:α},Paired F l₁ l₂→a∈l₁→∃ b∈l₂,F a b
 | _,_,_,.nil,h=>nomatch h
 | _,_,a,.cons r t,h=>by
   rcases dD.mp h with z | z
   · subst z; exact ⟨_,ij,r⟩
   · obtain ⟨b,h1,h2⟩:=eU t z; exact ⟨b,jC _ h1,h2⟩
theorem oA {α β:Type} {F:α→β→Prop}:∀ {l₁:List α} {l₂:List β} {i:Nat} {b:β},Paired F l₁ l₂→l₂[i]?=some b→∃ a,l₁[i]?=some a∧F a b
 | _,_,_,_,.nil,e=>by simp at e
 | _,_,0,_,.cons r _,e=>by simp at e; subst e; exact ⟨_,rfl,r⟩
 | _,_,i+1,b,.cons _ t,e=>by
   obtain ⟨a,h1,h2⟩:=oA (i:=i) (b:=b) t (by simpa using e)
   exact ⟨a,by simpa using h1,h2⟩
theorem iV {α β:Type} {F:α→β→Prop}:∀ {l₁:List α} {l₂:List β} {i:Nat} {a:α},Paired F l₁ l₂→l₁[i]?=some a→∃ b,l₂[i]?=some b∧F a b
 | _,_,_,_,.nil,e=>by simp at e
 | _,_,0,_,.cons r _,e=>by simp at e; subst e; exact ⟨_,rfl,r⟩
 | _,_,i+1,b,.cons _ t,e=>by
   obtain ⟨a,h1,h2⟩:=iV (i:=i) (a:=b) t (by simpa using e)
   exact ⟨a,by simpa using h1,h2⟩
theorem ax.called {K:PySem.W.Frag} {Z':Zc} {tm:List (T×V)} {O:List (Option Addr)} {ρ:En} {σ:St} {H H':Hp} {as:List Addr} {ks:List Nat} {us:List T} (I:ax K Z tm O ρ σ H) (hk:Paired (fun a k=>O[k]?=some (some a)) as ks) (nk:ks.Nodup)
  (fr:∀ b o,H b=some o→b∉as→H' b=some o) (hu:Paired (fun a u=>cz K H' (av Z' O) a u) as us)
  (hZ:Z'.H0=Z.H0) (hP:Z'.P=Z.P) (Wd:∀ a∈Z'.Ox,a∉roots O∧H' a≠none) (more:∀ a∈av Z' O,a∈av Z O∨H a=none):ax K Z' tm O (putK ks us ρ) σ H':=by
 have wM:∀ a∈as,a∈roots O:=fun a h=>by obtain ⟨k,_,e⟩:=eU hk h; exact aN.mpr (mW e)
 have sub:∀ a∈as,a∈av Z O:=fun a h=>ll _ (wM a h)
 have TK:∀ a∈as,a∈av Z' O:=fun a h=>ll _ (wM a h)
 have mu:∀ a∈as,∃ u,H a=some u∧uG u=true:=fun a h=>(I.own a (wM a h)).2.2
 have fw:∀ {t:T} {v:V},At K H (av Z O) t v→At K H' (av Z' O) t v:=fun q=>(q.more more).Lb fr TK mu
 have Xz:∀ {t:List T} {v:List V},aG K H (av Z O) t v→aG K H' (av Z' O) t v:=fun q=>aG.iff.mpr (Paired.mY (aG.iff.mp q) fun _ _ z=>fw z)
 refine ⟨by rw [oz]; exact I.lσ,by rw [oz]; exact I.lO,fun i e h=>?_,I.nd,fun b hb=>?_,by rw [hP]; exact I.par,fun a ha=>(Wd a ha).2,fun b o e n=>?_,fun p hp=>fw (I.nL p hp)⟩
 · rcases uO nk (by rw [← Paired.length hk,Paired.length hu]) h with ⟨h1,h2⟩ | ⟨j,u,h1,h2,rfl⟩
   · obtain ⟨o,s,g1,g2,g3⟩:=I.sl i e h2
     refine ⟨o,s,g1,g2,g3.map (fun _ _ q=>fw q) fun b t eo q=>?_⟩
     subst eo
     have nb:b∉as:=fun m=>by
      obtain ⟨k,EV,Ld⟩:=eU hk m
      exact h1 (by rw [IJ I g1 Ld]; exact EV)
     obtain ⟨u,eu,_⟩:=q.mut
     exact q.map (by rw [eu]; exact fr _ _ eu nb) fun _ _ z=>Xz z
   · obtain ⟨a,ha,r⟩:=oA hu h2
     obtain ⟨k,EV,Ld⟩:=iV hk ha
     rw [h1] at EV
     cases EV
     have hl:i < ρ.length:=by rw [← I.lO]; exact (fH.mp Ld).1
     obtain ⟨o,s,g1,g2,g3⟩:=I.sl i ρ[i] (by simp)
     rw [Ld] at g1
     cases g1
     refine ⟨some a,s,Ld,g2,a,rfl,?_,r⟩
     cases q:ρ[i] with
     | none=>rw [q] at g3; cases g3
     | some tb =>
       obtain ⟨t,b⟩:=tb
       rw [q] at g3
       cases b with
       | false=>cases g3.1
       | true=>obtain ⟨a',e1,e2,_⟩:=g3; cases e1; exact e2
 · obtain ⟨q1,q2,v,e,m⟩:=I.own b hb
   refine ⟨by rw [hZ,hP]; exact q1,fun z=>(Wd b z).1 hb,?_⟩
   by_cases We:b∈as
   · obtain ⟨j,hj⟩:=Ju.mp We
     obtain ⟨u,_,r⟩:=iV hu hj
     exact r.mut
   · exact ⟨v,fr _ _ e We,m⟩
 · rw [hZ] at e
   rw [hP] at n
   refine fr _ _ (I.keep b o e n) fun m=>?_
   rcases (I.own b (wM b m)).1 with z | z
   · exact n z
   · rw [z] at e; cases e
theorem oB (F:cN X.prog X.w X.K X.mg X.base iN k f fd ps (qt X.K fs G)) (hr:bp k X.A) (hg:Gl X x) (hm:X.mg x=some (.ref f)) (hk:PySem.W.keepIn X.K (.ref f)=true) (hb:Binds X.K fd ps []) (ha:La X Z (e :: es) ms g)
  (TJ:ms.map Option.isSome=fs:=by rfl) (Gf:(ms.filterMap id).Nodup:=by decide)
  (n6:gg x:=by decide) (he:starEach (e :: es) X.env=(false,eval e X.env) :: starEach es X.env:=by rfl) (fE:(backTo pos (starEach es X.env)).any (·.1)=false:=by rfl) :
  VX X Z (.Call (.Name x p) (e :: es) [] pos) (Lc ms g G):=.mk fun tm=>PE.weak (ku F hr hg hm hk hb .nil uA (ha tm) n6 he fE) fun σ H Q ⟨ρ,O,q,I,hf,k⟩ =>
 ⟨ρ,O,_,I,hf,fun ts gC vs H1 s1 a1=>by
   subst TJ
   show qt X.K _ G (vs ++ []) H1 Q E0
   rw [EL]
   have J:=I.same s1
   obtain ⟨as,h1,h2⟩:=AM.args (A':=av Z O) (fun _ z=>z) (fun k t e=>by obtain ⟨a,q1,q2,q3⟩:=J.root e; exact ⟨a,q1,q3⟩) a1
   have wM:∀ a∈as,a∈roots O:=fun a h=>by obtain ⟨k,_,e⟩:=eU h2 h; exact aN.mpr (mW e)
   have XA:as.Nodup:=by
    clear h1
    have:∀ {as:List Addr} {ks:List Nat},ks.Nodup→Paired (fun a k=>O[k]?=some (some a)) as ks→as.Nodup:=by
     intro as ks nd h
     induction h with
     | nil=>exact JB
     | cons r t ih =>
       rw [qe] at nd ⊢
       refine ⟨fun m=>?_,ih nd.2⟩
       obtain ⟨k',m1,m2⟩:=eU t m
       exact nd.1 (by rw [IJ J r m2]; exact m1)
    exact this Gf h2
   have Rr:∀ b,b∈as ++ (av Z O).filter (fun b=>decide (b∉as))↔b∈av Z O:=fun b=>by
    rw [iw,EK]
    constructor
    · rintro (z | z)
      · exact ll _ (wM b z)
      · exact z.1
    · intro z
      by_cases hb:b∈as
      · exact .inl hb
      · exact .inr ⟨z,decide_eq_true hb⟩
   obtain ⟨rj,TL,Le⟩:=AM.args (A':=as ++ (av Z O).filter (fun b=>decide (b∉as))) (fun b z=>(Rr b).mp z) (fun k t e=>by obtain ⟨a,q1,q2,q3⟩:=J.root e; exact ⟨a,q1,q3⟩) a1
   have ee:rj=as:=by
    have:∀ {as rj:List Addr} {ks:List Nat},Paired (fun a k=>O[k]?=some (some a)) as ks→Paired (fun a k=>O[k]?=some (some a)) rj ks→rj=as:=by
     intro as rj ks h h'
     induction h generalizing rj with
     | nil=>cases h'; rfl
     | cons r t ih =>
       cases h' with
       | cons r' t' =>
         rw [r] at r'
         cases r'
         rw [ih t']
    exact this h2 Le
   subst ee
   refine ⟨ts,rj,(av Z O).filter (fun b=>decide (b∉rj)),_,XA,fun a h z=>?_,fun a h=>J.KJ a (EK.mp h).1,TL,gC,fun us r hr v H' fr z=>?_⟩
   · exact (of_decide_eq_true (EK.mp z).2) h
   have OM:∀ a∈Z.Ox,a∉roots O∧H' a≠none:=fun a h=>by
    have na:a∉roots O:=fun m=>(J.own a m).2.1 h
    refine ⟨na,?_⟩
    cases e:H1 a with
    | none=>exact absurd e (J.ox a h)
    | some u=>rw [fr _ _ e fun m=>na (wM a m)]; simp
   cases r with
   | vw t =>
     obtain ⟨z1,z2⟩:=z
     exact k _ _ hr O v H' ⟨J.called h2 Gf fr (Paired.mY z2 fun _ _ q=>q.bq fun b hb=>(Rr b).mpr hb) rfl rfl OM fun a h=>.inl h,z1.bq fun b hb=>(Rr b).mpr hb⟩
   | fr t =>
     obtain ⟨b,rfl,hb,nb,hR,z2⟩:=z
     obtain ⟨n1,n2,n3⟩:=J.fresh hb
     have sb:∀ c∈av (Z.ex b) O,c∈b :: (rj ++ (av Z O).filter (fun b=>decide (b∉rj))):=fun c hc=>by
      rcases dc c hc with z | z
      · exact jC _ ((Rr c).mpr z)
      · rw [z]; exact ij
     refine k _ _ hr O _ H' ⟨b,rfl,J.called h2 Gf fr (Paired.mY z2 fun _ _ q=>q.bq sb) rfl rfl (fun a h=>?_) (fun a h=>(dc a h).imp id fun e=>by rw [e]; exact hb),hR.bq sb,n3,n2⟩
     rcases dD.mp h with z | z
     · subst z
       obtain ⟨u,eu,_⟩:=hR.mut
       exact ⟨fun m=>n1 (ll _ m),by rw [eu]; simp⟩
     · exact OM a z⟩
end
section
variable (K:PySem.W.Frag)
theorem uP:PySem.W.kitOne K (.type "int") (.type "int")=some true:=by kernel_rfl
theorem sE:PySem.W.kitOne K (.type "int") (.type "bool")=some false:=by kernel_rfl
theorem uQ:PySem.W.kitOne K (.type "int") (.type "str")=some false:=by kernel_rfl
theorem qu:PySem.W.kitOne K (.type "int") (.type "tuple")=some false:=by kernel_rfl
theorem sF:PySem.W.kitOne K (.type "bool") (.type "int")=some true:=by kernel_rfl
theorem qv:PySem.W.kitOne K (.type "bool") (.type "bool")=some true:=by kernel_rfl
theorem sG:PySem.W.kitOne K (.type "bool") (.type "str")=some false:=by kernel_rfl
theorem oE:PySem.W.kitOne K (.type "bool") (.type "tuple")=some false:=by kernel_rfl
theorem uR:PySem.W.kitOne K (.type "str") (.type "int")=some false:=by kernel_rfl
theorem sH:PySem.W.kitOne K (.type "str") (.type "bool")=some false:=by kernel_rfl
theorem uS:PySem.W.kitOne K (.type "str") (.type "str")=some true:=by kernel_rfl
theorem qw:PySem.W.kitOne K (.type "str") (.type "tuple")=some false:=by kernel_rfl
theorem sI:PySem.W.kitOne K (.type "list") (.type "int")=some false:=by kernel_rfl
theorem qx:PySem.W.kitOne K (.type "list") (.type "bool")=some false:=by kernel_rfl
theorem sJ:PySem.W.kitOne K (.type "list") (.type "str")=some false:=by kernel_rfl
theorem oF:PySem.W.kitOne K (.type "list") (.type "tuple")=some false:=by kernel_rfl
theorem qy:PySem.W.kitOne K (.type "tuple") (.type "int")=some false:=by kernel_rfl
theorem oG:PySem.W.kitOne K (.type "tuple") (.type "bool")=some false:=by kernel_rfl
theorem qz:PySem.W.kitOne K (.type "tuple") (.type "str")=some false:=by kernel_rfl
theorem m_:PySem.W.kitOne K (.type "tuple") (.type "tuple")=some true:=by kernel_rfl
theorem sL:PySem.W.kitOne K (.type "dict") (.type "int")=some false:=by kernel_rfl
theorem qA:PySem.W.kitOne K (.type "dict") (.type "bool")=some false:=by kernel_rfl
theorem sM:PySem.W.kitOne K (.type "dict") (.type "str")=some false:=by kernel_rfl
theorem oH:PySem.W.kitOne K (.type "dict") (.type "tuple")=some false:=by kernel_rfl
theorem lV:PySem.W.kitOne K (.type "NoneType") (.type "int")=some false:=by kernel_rfl
theorem kE:PySem.W.kitOne K (.type "NoneType") (.type "bool")=some false:=by kernel_rfl
theorem lW:PySem.W.kitOne K (.type "NoneType") (.type "str")=some false:=by kernel_rfl
theorem j4:PySem.W.kitOne K (.type "NoneType") (.type "tuple")=some false:=by kernel_rfl
end
def Wf (K:PySem.W.Frag) (H:Hp):V→String→Prop
 | .bu,t=>t="NoneType"
 | .bl _,t=>t="bool"
 | .int _,t=>t="int"
 | .str _,t=>t="str"
 | .ref a,t=>(t="list"∧∃ xs,eJ K H a xs)∨(t="tuple"∧∃ xs,dF K H a xs)∨(t="dict"∧∃ aZ,H a=some (.dK aZ))
 | _,_=>False
def ON (K:PySem.W.Frag):List V→Hp→VK→Prop:=fun xs H Q=>∃ x n t b,xs=[x,.ty n]∧Wf K H x t∧PySem.W.kitOne K (.type t) (.type n)=some b∧Q (.bl b) H
theorem zT {X:Cx}:c_ X (.builtin "isinstance") (ON X.K):=by
 intro pins s σ H xs us Q I r h
 obtain ⟨x,n,t,b,rfl,ty,e,q⟩:=h
 obtain ⟨u,w',rfl,rx,ry⟩:=vals2 r
 obtain rfl:w'=Value.type n:=ry
 have fin:∀ tk,EP X pins σ Q (.bool b) { s with toks:=tk }:=fun tk=>⟨.bl b,H,I.tok _,rfl,q⟩
 cases x with
 | bu=>cases (show t=_ from ty); cases (show u=Value.none from rx); exact Ic PySem.W.kitx_none I.lq True.intro e (fun z=>nomatch z) fin
 | bl y=>cases (show t=_ from ty); cases (show u=Value.bool y from rx); exact Ic PySem.W.kitx_bool I.lq True.intro e (fun z=>nomatch z) fin
 | int i=>cases (show t=_ from ty); obtain ⟨t,q⟩:=(show ∃ t,u=Value.int i t from rx); cases q; exact Ic PySem.W.kitx_int I.lq True.intro e (fun z=>nomatch z) fin
 | str y=>cases (show t=_ from ty); obtain ⟨t,q⟩:=(show ∃ t,u=Value.str y t from rx); cases q; exact Ic PySem.W.kitx_str I.lq True.intro e (fun z=>nomatch z) fin
 | ref a =>
   cases (show u=Value.ref a from rx)
   rcases ty with ⟨rfl,xs,hq⟩ | ⟨rfl,xs,hq⟩ | ⟨rfl,aZ,hq⟩
   · obtain ⟨aP,_,p,_⟩:=I.list hq
     obtain ⟨o,n',h1,h2,_⟩:=p
     exact Ic PySem.W.kitx_list I.lq ⟨o,h1,h2⟩ e (fun z=>nomatch z) fin
   · obtain ⟨aP,_,p,_⟩:=I.tuple hq
     obtain ⟨o,h1,h2,_⟩:=p
     exact Ic PySem.W.kitx_tuple I.lq ⟨o,h1,h2⟩ e (fun z=>nomatch z) fin
   · obtain ⟨_,_,vs,_,p⟩:=(show bP X.prog X.w H s.heap a (.dK aZ) from I.bC a _ hq)
     obtain ⟨o,es,ep,h1,h2,_⟩:=p
     exact Ic PySem.W.kitx_dict I.lq ⟨o,h1,h2.1⟩ e (fun z=>nomatch z) fin
 | _=>exact (show False from ty).elim
def isInt:T→Bool
 | .int _=>true
 | .bl _=>true
 | _=>false
def isBool:T→Bool
 | .bl _=>true
 | _=>false
def isStr:T→Bool
 | .str _=>true
 | _=>false
def isList:T→Bool
 | .lst _=>true
 | _=>false
def Gg:T→Bool
 | .tup _=>true
 | _=>false
def known:T→Bool
 | .dt _ _=>false
 | .df _ _ _=>false
 | .dz _ _ _=>false
 | .kt _=>false
 | .ins _ _ _=>false
 | .pin _ _=>false
 | .ob _=>false
 | .ty _=>false
 | _=>true
def oI (K:PySem.W.Frag) (n:String) (p:T→Bool):Prop:=∀ H A t v,known t=true→gB K H A t v→∃ ty,Wf K H v ty∧PySem.W.kitOne K (.type ty) (.type n)=some (p t)
theorem uT {K:PySem.W.Frag}:oI K "int" isInt:=by
 intro H A t v hk h
 cases t with
 | bu=>rw [h.bu]; exact ⟨_,rfl,lV K⟩
 | bl b=>rw [h.bl]; exact ⟨_,rfl,sF K⟩
 | int b=>rw [h.int]; exact ⟨_,rfl,uP K⟩
 | str b=>rw [h.str]; exact ⟨_,rfl,uR K⟩
 | tup l=>obtain ⟨a,vs,rfl,q,_⟩:=h.tup; exact ⟨_,.inr (.inl ⟨rfl,_,q⟩),qy K⟩
 | lst l=>obtain ⟨a,vs,rfl,q,_⟩:=h.lst; exact ⟨_,.inl ⟨rfl,_,q⟩,sI K⟩
 | dk ks l=>obtain ⟨a,vs,rfl,_,q,_⟩:=h.dk; exact ⟨_,.inr (.inr ⟨rfl,_,q⟩),sL K⟩
 | _=>simp only [known] at hk; cases hk
theorem rl {K:PySem.W.Frag}:oI K "bool" isBool:=by
 intro H A t v hk h
 cases t with
 | bu=>rw [h.bu]; exact ⟨_,rfl,kE K⟩
 | bl b=>rw [h.bl]; exact ⟨_,rfl,qv K⟩
 | int b=>rw [h.int]; exact ⟨_,rfl,sE K⟩
 | str b=>rw [h.str]; exact ⟨_,rfl,sH K⟩
 | tup l=>obtain ⟨a,vs,rfl,q,_⟩:=h.tup; exact ⟨_,.inr (.inl ⟨rfl,_,q⟩),oG K⟩
 | lst l=>obtain ⟨a,vs,rfl,q,_⟩:=h.lst; exact ⟨_,.inl ⟨rfl,_,q⟩,qx K⟩
 | dk ks l=>obtain ⟨a,vs,rfl,_,q,_⟩:=h.dk; exact ⟨_,.inr (.inr ⟨rfl,_,q⟩),qA K⟩
 | _=>simp only [known] at hk; cases hk
theorem oJ {K:PySem.W.Frag}:oI K "str" isStr:=by
 intro H A t v hk h
 cases t with
 | bu=>rw [h.bu]; exact ⟨_,rfl,lW K⟩
 | bl b=>rw [h.bl]; exact ⟨_,rfl,sG K⟩
 | int b=>rw [h.int]; exact ⟨_,rfl,uQ K⟩
 | str b=>rw [h.str]; exact ⟨_,rfl,uS K⟩
 | tup l=>obtain ⟨a,vs,rfl,q,_⟩:=h.tup; exact ⟨_,.inr (.inl ⟨rfl,_,q⟩),qz K⟩
 | lst l=>obtain ⟨a,vs,rfl,q,_⟩:=h.lst; exact ⟨_,.inl ⟨rfl,_,q⟩,sJ K⟩
 | dk ks l=>obtain ⟨a,vs,rfl,_,q,_⟩:=h.dk; exact ⟨_,.inr (.inr ⟨rfl,_,q⟩),sM K⟩
 | _=>simp only [known] at hk; cases hk
theorem oM {K:PySem.W.Frag}:oI K "tuple" Gg:=by
 intro H A t v hk h
 cases t with
 | bu=>rw [h.bu]; exact ⟨_,rfl,j4 K⟩
 | bl b=>rw [h.bl]; exact ⟨_,rfl,oE K⟩
 | int b=>rw [h.int]; exact ⟨_,rfl,qu K⟩
 | str b=>rw [h.str]; exact ⟨_,rfl,qw K⟩
 | tup l=>obtain ⟨a,vs,rfl,q,_⟩:=h.tup; exact ⟨_,.inr (.inl ⟨rfl,_,q⟩),m_ K⟩
 | lst l=>obtain ⟨a,vs,rfl,q,_⟩:=h.lst; exact ⟨_,.inl ⟨rfl,_,q⟩,oF K⟩
 | dk ks l=>obtain ⟨a,vs,rfl,_,q,_⟩:=h.dk; exact ⟨_,.inr (.inr ⟨rfl,_,q⟩),oH K⟩
 | _=>simp only [known] at hk; cases hk
def OP (f:FE) (p:T→Bool):FP:=fun ρ Q=>f ρ fun t=>known t=true∧Q (.vw (.bl (p t)))
section
variable {X:Cx} {Z:Zc} {e a b c:Expr} {es:List Expr} {pos p p2:Pos} {fa fb M':FE}
theorem kF:bootBuiltins "isinstance" = some (.builtin "isinstance"):=by decide +kernel
theorem eD {n:String} {y:Str} {q:T→Bool} (hq:oI X.K n q) (hg:Gl X "isinstance") (hm:X.mg "isinstance" = none) (XB:Gl X y) (XD:X.mg y=none) (XE:bootBuiltins y=some (.type n)) (ha:VR X Z e fa)
  (XG:y≠"__name__":=by decide) (XH:gg y:=by decide)
  (hs:starEach [e,.Name y p2] X.env=(false,eval e X.env) :: starEach [.Name y p2] X.env:=by rfl) (uf:starEach [.Name y p2] X.env=(false,eval (.Name y p2) X.env) :: starEach [] X.env:=by rfl) (fE:(backTo pos (starEach [.Name y p2] X.env)).any (·.1)=false:=by rfl) :
  VP X Z (.Call (.Name "isinstance" p) [e,.Name y p2] [] pos) (OP fa q):=.mk fun tm =>
 PE.weak (kx zT hg hm kF (bw (ha tm) (bw (Fh (v:=.ty n) XB XD XE rfl XG XH) cX uf) hs) (by decide) (by decide) hs fE) fun σ H Q ⟨ρ,O,q',I,hf,k⟩=>⟨ρ,O,_,I,hf,fun t ht v H1 s1 a1=>by
  obtain ⟨ty,h1,h2⟩:=hq H1 _ t v ht.1 a1
  exact ⟨v,n,ty,_,rfl,h1,h2,k _ ht.2 _ H1 s1 ⟨I.same s1,cM⟩⟩⟩
def fK:T→Bool
 | .bu=>true
 | .bl _=>true
 | .int _=>true
 | .str _=>true
 | _=>false
def mI:List T→Bool
 | []=>true
 | t :: ts=>fK t && mI ts
def sN (x:T):List T→Bool
 | []=>false
 | t :: ts=>eqT t x || sN x ts
theorem gm {K:PySem.W.Frag} {H:Hp} {A:List Addr}:∀ {ts:List T} {vs:List V} {x:T} {v:V},mI ts=true→fK x=true→aG K H A ts vs→At K H A x v→vs.all iL=true∧iL v=true∧Rg v vs=sN x ts
 | [],vs,x,v,_,fx,h,hx=>by
   simp only [aG] at h; subst h
   refine ⟨rfl,?_,rfl⟩
   cases x <;> simp only [At] at hx <;> first | (subst hx; rfl) | (simp only [fK] at fx; cases fx)
 | t :: ts,vs,x,v,f,fx,h,hx=>by
   simp only [aG] at h
   obtain ⟨u,r,rfl,h1,h2⟩:=h
   simp only [mI,iE] at f
   obtain ⟨i1,i2,i3⟩:=gm f.2 fx h2 hx
   have ft:iL u=true:=by
    cases t <;> simp only [At] at h1 <;> first | (subst h1; rfl) | (have:=f.1; simp only [fK] at this; cases this)
   have e:ER u v=eqT t x:=by
    cases t <;> simp only [At] at h1 <;> first
     | (have:=f.1; simp only [fK] at this; cases this; done)
     | (subst h1
        cases x <;> simp only [At] at hx <;> first
         | (simp only [fK] at fx; cases fx; done)
         | (subst hx; simp [ER,eqT]; done))
   refine ⟨by simp [ft,i1],i2,?_⟩
   simp only [sN,Rg,M0]
   rw [e]
   congr 1
def Cy (K:PySem.W.Frag) (neg:Bool):R2:=fun x y H Q=>SM K neg x y H Q∨∃ i j,x = .str i∧y = .str j∧Q (.bl (if neg then !(!(Builtin.Str.occurrences j i 0 j.length 1).isEmpty) else !(Builtin.Str.occurrences j i 0 j.length 1).isEmpty)) H
theorem wN:d_ X (compareOp .In) (Cy X.K false):=by
 intro pins s σ H x y v u Q I rx ry h
 rcases h with h | ⟨i,j,h1,h2,h⟩
 · exact zL pins s σ H x y v u Q I rx ry h
 · exact zJ pins s σ H x y v u Q I rx ry ⟨i,j,h1,h2,by simpa using h⟩
theorem zU:d_ X (compareOp .NotIn) (Cy X.K true):=by
 intro pins s σ H x y v u Q I rx ry h
 rcases h with h | ⟨i,j,h1,h2,h⟩
 · exact se pins s σ H x y v u Q I rx ry h
 · exact sg pins s σ H x y v u Q I rx ry ⟨i,j,h1,h2,by simpa using h⟩
def yQ (i j:Str):Bool:=!(Builtin.Str.occurrences j i 0 j.length 1).isEmpty
def OQ (x y:T) (q:Rt→Prop):Prop:=match y with
 | .lst ts=>fK x=true∧mI ts=true∧q (.vw (.bl (sN x ts)))
 | .tup ts=>fK x=true∧mI ts=true∧q (.vw (.bl (sN x ts)))
 | .str j=>∃ i,x = .str i∧q (.vw (.bl (yQ i j)))
 | _=>False
def Lf (x y:T) (q:Rt→Prop):Prop:=match y with
 | .lst ts=>fK x=true∧mI ts=true∧q (.vw (.bl (!sN x ts)))
 | .tup ts=>fK x=true∧mI ts=true∧q (.vw (.bl (!sN x ts)))
 | .str j=>∃ i,x = .str i∧q (.vw (.bl (!yQ i j)))
 | _=>False
theorem wO {K:PySem.W.Frag}:qc K (Cy K false) OQ:=by
 intro Z tm O ρ σ H x y v w q Q I h1 h2 h k
 have x1:fK x=true→At K H (av Z O) x v:=fun f=>by
  rcases h1 with h | ⟨a,rfl,h⟩
  · exact h
  · cases x <;> first | exact h.elim | (simp only [fK] at f; cases f)
 unfold OQ at h
 split at h
 · obtain ⟨f1,f2,h⟩:=h
   obtain ⟨a,vs,rfl,q1,q2⟩:=h2.lst
   obtain ⟨i1,i2,i3⟩:=gm f2 f1 q2 (x1 f1)
   exact .inl ⟨a,vs,rfl,.inl q1,i2,i1,k _ h _ H (aK.refl H) ⟨I,by rw [if_neg qa,i3]; exact cM⟩⟩
 · obtain ⟨f1,f2,h⟩:=h
   obtain ⟨a,vs,rfl,q1,q2⟩:=h2.tup
   obtain ⟨i1,i2,i3⟩:=gm f2 f1 q2 (x1 f1)
   exact .inl ⟨a,vs,rfl,.inr q1,i2,i1,k _ h _ H (aK.refl H) ⟨I,by rw [if_neg qa,i3]; exact cM⟩⟩
 · obtain ⟨i,rfl,h⟩:=h
   exact .inr ⟨i,_,h1.str,h2.str,k _ h _ H (aK.refl H) ⟨I,by rw [if_neg qa]; exact cM⟩⟩
 · exact h.elim
theorem Gh {K:PySem.W.Frag}:qc K (Cy K true) Lf:=by
 intro Z tm O ρ σ H x y v w q Q I h1 h2 h k
 have x1:fK x=true→At K H (av Z O) x v:=fun f=>by
  rcases h1 with h | ⟨a,rfl,h⟩
  · exact h
  · cases x <;> first | exact h.elim | (simp only [fK] at f; cases f)
 unfold Lf at h
 split at h
 · obtain ⟨f1,f2,h⟩:=h
   obtain ⟨a,vs,rfl,q1,q2⟩:=h2.lst
   obtain ⟨i1,i2,i3⟩:=gm f2 f1 q2 (x1 f1)
   exact .inl ⟨a,vs,rfl,.inl q1,i2,i1,k _ h _ H (aK.refl H) ⟨I,by rw [if_pos rfl,i3]; exact cM⟩⟩
 · obtain ⟨f1,f2,h⟩:=h
   obtain ⟨a,vs,rfl,q1,q2⟩:=h2.tup
   obtain ⟨i1,i2,i3⟩:=gm f2 f1 q2 (x1 f1)
   exact .inl ⟨a,vs,rfl,.inr q1,i2,i1,k _ h _ H (aK.refl H) ⟨I,by rw [if_pos rfl,i3]; exact cM⟩⟩
 · obtain ⟨i,rfl,h⟩:=h
   exact .inr ⟨i,_,h1.str,h2.str,k _ h _ H (aK.refl H) ⟨I,by rw [if_pos rfl]; exact cM⟩⟩
 · exact h.elim
theorem Cz (ha:VR X Z a fa) (hb:VR X Z b fb) (hm:behindInMarks .In b=false:=by rfl):VP X Z (.Compare a [.In] [b] pos) (f2 fa fb OQ):=oh wN wO ha hb hm
theorem CA (ha:VR X Z a fa) (hb:VR X Z b fb) (hm:behindInMarks .In b=false:=by rfl):VC X Z (.Compare a [.In] [b] pos) (qr (f2 fa fb OQ)):=jW wN wO ha hb hm
theorem Lg (ha:VR X Z a fa) (hb:VR X Z b fb) (hm:behindInMarks .NotIn b=false:=by rfl):VC X Z (.Compare a [.NotIn] [b] pos) (qr (f2 fa fb Lf)):=jW zU Gh ha hb hm
def IK:T→Bool
 | .bu=>true
 | _=>false
def TM (x y:T) (q:Rt→Prop):Prop:=match y with
 | .bu=>q (.vw (.bl (IK x)))
 | _=>False
theorem Gi {K:PySem.W.Frag} {H:Hp} {A:List Addr} {t:T} {v:V} (h:gB K H A t v):decide (v = .bu)=IK t:=by
 cases t with
 | bu=>rw [h.bu]; rfl
 | bl b=>rw [h.bl]; rfl
 | int b=>rw [h.int]; rfl
 | str b=>rw [h.str]; rfl
 | ob b=>rw [h.ob]; rfl
 | ty b =>
   have:v = .ty b:=h.elim (fun q=>by simpa only [At] using q) fun ⟨_,_,q⟩=>q.elim
   rw [this]; rfl
 | tup l=>obtain ⟨a,vs,rfl,_⟩:=h.tup; rfl
 | lst l=>obtain ⟨a,vs,rfl,_⟩:=h.lst; rfl
 | dk ks l=>obtain ⟨a,vs,rfl,_⟩:=h.dk; rfl
 | dt ks l=>obtain ⟨a,vs,rfl,_⟩:=h.dt; rfl
 | df o ks l=>obtain ⟨a,vs,rfl,_⟩:=h.df; rfl
 | dz o ks l=>obtain ⟨a,vs,rfl,_⟩:=h.dz; rfl
 | kt k=>obtain ⟨a,rfl,_⟩:=h.kt; rfl
 | ins C ns l=>obtain ⟨a,dx,vs,rfl,_⟩:=h.ins; rfl
 | pin a t =>
   have e:v = .ref a:=h.elim (fun q=>by simp only [At] at q; exact q.1) fun ⟨_,_,q⟩=>q.elim
   rw [e]; rfl
theorem Lh {K:PySem.W.Frag}:qc K (fun x y H Q=>y = .bu∧Q (.bl (decide (x = .bu))) H) TM:=by
 intro Z tm O ρ σ H x y v w q Q I h1 h2 h k
 unfold TM at h
 split at h
 · exact ⟨h2.bu,k _ h _ H (aK.refl H) ⟨I,by rw [Gi h1]; exact cM⟩⟩
 · exact h.elim
theorem uU (ha:VR X Z a fa) (hb:VR X Z b fb):VC X Z (.Compare a [.Is] [b] pos) (qr (f2 fa fb TM)):=jW Kk Lh ha hb (iI _)
theorem uV {g g':Int→Int→Bool} {tm:List (T×V)} {σ:St} {H:Hp} {Q:VK} (h:lP X Z tm (f3 fa fb M' (KP g) (KP g')) σ H Q):wt (r8 fun i j=>.bl (g i j)) (r8 fun i j=>.bl (g' i j)) (lR X Z tm fa) (lR X Z tm fb) (lR X Z tm M') σ H Q:=by
 obtain ⟨ρ,O,q,I,hf,k⟩:=h
 refine ⟨ρ,O,_,I,hf,fun x hx v H1 s1 a1=>⟨ρ,O,_,I.same s1,hx,fun y hy w H2 s2 a2=>?_⟩⟩
 have J:=(I.same s1).same s2
 unfold KP at hy
 split at hy
 · rename_i i j
   refine ⟨i,j,(a1.same s2).int,a2.int,_,rfl,?_⟩
   cases e:g i j with
   | true =>
     rw [e] at hy
     refine Oj ⟨ρ,O,_,J,hy,fun z hz w3 H3 s3 a3=>?_⟩
     split at hz
     · rename_i e1
       cases e1
       exact ⟨_,_,(a2.same s3).int,a3.int,k _ hz _ H3 ((s1.trans s2).trans s3) ⟨J.same s3,cM⟩⟩
     · exact hz.elim
   | false =>
     rw [e] at hy
     exact Oi (k _ hy _ H2 (s1.trans s2) ⟨J,cM⟩)
 · exact hy.elim
theorem CB {op wu:CmpOp} {g g':Int→Int→Bool} (ho:d_ X (compareOp op) (r8 fun i j=>.bl (g i j))) (we:d_ X (compareOp wu) (r8 fun i j=>.bl (g' i j))) (ha:VR X Z a fa) (hb:VR X Z b fb) (hc:VR X Z c M')
 (hm:lastMarks [op,wu] [b,c]=false:=by with_unfolding_all rfl):VP X Z (.Compare a [op,wu] [b,c] pos) (f3 fa fb M' (KP g) (KP g')):=.mk fun tm=>PE.weak (BY ho we (ha tm) (hb tm) (hc tm) hm) fun σ H Q h=>uV h
theorem CC {op wu:CmpOp} {g g':Int→Int→Bool} (ho:d_ X (compareOp op) (r8 fun i j=>.bl (g i j))) (we:d_ X (compareOp wu) (r8 fun i j=>.bl (g' i j))) (ha:VR X Z a fa) (hb:VR X Z b fb) (hc:VR X Z c M')
  (hm:lastMarks [op,wu] [b,c]=false:=by with_unfolding_all rfl):VC X Z (.Compare a [op,wu] [b,c] pos) (qr (f3 fa fb M' (KP g) (KP g'))):=.mk fun tm=>PT.weak (BZ ho we (ha tm) (hb tm) (hc tm) hm) fun σ H Q ⟨ρ,O,q,I,hf,k⟩ =>
 uV ⟨ρ,O,_,I,hf,fun t ht u H' s a=>by
  obtain ⟨c,rfl,hc⟩:=wK ht
  have e:=a.2
  simp only [At] at e
  exact ⟨c,e,k c hc H' s⟩⟩
def mJ (ts:List T):List T:=ts.mapIdx fun i t=>.tup [.int (i:Int),t]
def OR (f:FE):FI:=fun ρ Q=>f ρ fun t=>match t with
 | .lst ts=>Q (mJ ts)
 | _=>False
theorem Gj {K:PySem.W.Frag} {a:Addr} {ts:List T}:Wk K (S7 K a) [(.lst ts,.ref a)] (mJ ts):=fun H A hA h i=>by
 have h:=h _ ij
 simp only [At] at h
 obtain ⟨b,vs,e,l,q⟩:=h
 cases e
 have hl:=q.length
 have hle:(mJ ts).length=ts.length:=by unfold mJ; rw [List.length_mapIdx]
 rw [hle]
 refine ⟨fun hi=>⟨vs,vs[i]'(by omega),l.sq,by simp⟩,fun hi=>⟨vs,l.sq,by omega⟩,fun t ht x H' y=>?_⟩
 obtain ⟨p,u,hp,rfl,hu,rfl⟩:=y
 unfold mJ at ht
 rw [List.getElem?_mapIdx] at ht
 cases e:ts[i]? with
 | none=>rw [e] at ht; cases ht
 | some t' =>
   rw [e] at ht
   cases ht
   obtain ⟨v,e1,e2⟩:=q.get e
   have:=hu vs l.sq
   rw [e1] at this
   cases this
   exact ⟨aM hp,br (dF.of aT) (aG.cons bE (aG.cons (e2.same (aM hp)) aG.nil))⟩
theorem jk {elts:List Expr} {x1} {tp:Pos} (hg:Gl X "enumerate") (hm:X.mg "enumerate" = none) (ha:VE X Z a fa) (hs:starEach [a] X.env=[(false,eval a X.env)]:=by rfl) :
  VI X Z (.Tuple elts x1 tp) (.Call (.Name "enumerate" p) [a] [] pos) (OR fa):=.mk fun tm=>PI.weak (FV hg hm (bw (ha tm) cX hs) hs) fun σ H R ⟨ρ,O,q,I,hf,k⟩=>⟨ρ,O,_,I,hf,fun t ht v H' s a=>by
 split at ht
 · have a0:=a
   simp only [At] at a
   obtain ⟨p,vs,rfl,l,_⟩:=a
   exact ⟨p,rfl,⟨vs,l.sq⟩,k _ ht _ H' _ s (fun p hp=>by rw [um.mp hp]; exact a0) Gj⟩
 · exact ht.elim⟩
def cc:List T→Option (List Bool)
 | []=>some []
 | .bl b :: ts=>(cc ts).map (b :: ·)
 | _=>none
def intsOf:List T→Option (List Int)
 | []=>some []
 | .int b :: ts=>(intsOf ts).map (b :: ·)
 | _=>none
theorem CD {K:PySem.W.Frag} {H:Hp} {A:List Addr}:∀ {ts:List T} {bs:List Bool} {vs:List V},cc ts=some bs→aG K H A ts vs→vs=bs.map V.bl
 | [],bs,vs,e,h=>by simp only [cc] at e; cases e; simp only [aG] at h; rw [h]; rfl
 | .bl b :: ts,bs,vs,e,h=>by
   simp only [cc] at e
   cases q:cc ts with
   | none=>rw [q] at e; cases e
   | some cs =>
     rw [q] at e
     cases e
     simp only [aG,At] at h
     obtain ⟨v,r,rfl,rfl,h⟩:=h
     rw [CD q h]; rfl
 | .bu :: _,_,_,e,_=>by simp [cc] at e
 | .int _ :: _,_,_,e,_=>by simp [cc] at e
 | .str _ :: _,_,_,e,_=>by simp [cc] at e
 | .tup _ :: _,_,_,e,_=>by simp [cc] at e
 | .lst _ :: _,_,_,e,_=>by simp [cc] at e
 | .dk _ _ :: _,_,_,e,_=>by simp [cc] at e
 | .dt _ _ :: _,_,_,e,_=>by simp [cc] at e
 | .df _ _ _ :: _,_,_,e,_=>by simp [cc] at e
 | .dz _ _ _ :: _,_,_,e,_=>by simp [cc] at e
 | .kt _ :: _,_,_,e,_=>by simp [cc] at e
 | .ins _ _ _ :: _,_,_,e,_=>by simp [cc] at e
 | .pin _ _ :: _,_,_,e,_=>by simp [cc] at e
 | .ob _ :: _,_,_,e,_=>by simp [cc] at e
 | .ty _ :: _,_,_,e,_=>by simp [cc] at e
theorem yR {K:PySem.W.Frag} {H:Hp} {A:List Addr}:∀ {ts:List T} {bs:List Int} {vs:List V},intsOf ts=some bs→aG K H A ts vs→vs=bs.map V.int
 | [],bs,vs,e,h=>by simp only [intsOf] at e; cases e; simp only [aG] at h; rw [h]; rfl
 | .int b :: ts,bs,vs,e,h=>by
   simp only [intsOf] at e
   cases q:intsOf ts with
   | none=>rw [q] at e; cases e
   | some cs =>
     rw [q] at e
     cases e
     simp only [aG,At] at h
     obtain ⟨v,r,rfl,rfl,h⟩:=h
     rw [yR q h]; rfl
 | .bu :: _,_,_,e,_=>by simp [intsOf] at e
 | .bl _ :: _,_,_,e,_=>by simp [intsOf] at e
 | .str _ :: _,_,_,e,_=>by simp [intsOf] at e
 | .tup _ :: _,_,_,e,_=>by simp [intsOf] at e
 | .lst _ :: _,_,_,e,_=>by simp [intsOf] at e
 | .dk _ _ :: _,_,_,e,_=>by simp [intsOf] at e
 | .dt _ _ :: _,_,_,e,_=>by simp [intsOf] at e
 | .df _ _ _ :: _,_,_,e,_=>by simp [intsOf] at e
 | .dz _ _ _ :: _,_,_,e,_=>by simp [intsOf] at e
 | .kt _ :: _,_,_,e,_=>by simp [intsOf] at e
 | .ins _ _ _ :: _,_,_,e,_=>by simp [intsOf] at e
 | .pin _ _ :: _,_,_,e,_=>by simp [intsOf] at e
 | .ob _ :: _,_,_,e,_=>by simp [intsOf] at e
 | .ty _ :: _,_,_,e,_=>by simp [intsOf] at e
def OS (ts:List T) (q:Rt→Prop):Prop:=match ts with
 | [.lst l]=>∃ bs,cc l=some bs∧q (.vw (.bl (bs.all id)))
 | _=>False
theorem jm {K:PySem.W.Frag}:ot K (fun xs H Q=>∃ (p:Addr) (bs:List Bool),xs=[.ref p]∧eJ K H p (bs.map V.bl)∧Q (.bl (bs.all id)) H) OS:=by
 intro Z tm O ρ σ H ts vs q Q I h hp k
 unfold OS at hp
 split at hp
 · obtain ⟨bs,e,hp⟩:=hp
   obtain ⟨v,rfl,a⟩:=cK h
   obtain ⟨p,ws,rfl,q1,q2⟩:=a.lst
   rw [CD e q2] at q1
   exact ⟨p,bs,rfl,q1,k _ hp _ H (aK.refl H) ⟨I,cM⟩⟩
 · exact hp.elim
def OT (ts:List T) (q:Rt→Prop):Prop:=match ts with
 | [.lst l]=>∃ ns,intsOf l=some ns∧q (.vw (.int ns.sum))
 | _=>False
theorem zV {K:PySem.W.Frag}:ot K (fun xs H Q=>∃ (p:Addr) (ns:List Int),xs=[.ref p]∧eJ K H p (ns.map V.int)∧Q (.int ns.sum) H) OT:=by
 intro Z tm O ρ σ H ts vs q Q I h hp k
 unfold OT at hp
 split at hp
 · obtain ⟨bs,e,hp⟩:=hp
   obtain ⟨v,rfl,a⟩:=cK h
   obtain ⟨p,ws,rfl,q1,q2⟩:=a.lst
   rw [yR e q2] at q1
   exact ⟨p,bs,rfl,q1,k _ hp _ H (aK.refl H) ⟨I,bE⟩⟩
 · exact hp.elim
end
structure Df (K:PySem.W.Frag) (mg:Str→Option Value) (x:Str) (st:Stmt) (ps:List Str) (f:Addr) (fd:FuncData):Prop where
 F:BC K x x st f fd
 m:mg x=some (.ref f)
 b:Binds K fd ps []
def b8 (P:Program) (w:World) (K:PySem.W.Frag) (mg:Str→Option Value) (base:Heap) (x:Str) (ps:List Str) (k:Nat) (sp:Sp):Prop :=
 ∃ f fd,mg x=some (.ref f)∧PySem.W.keepIn K (.ref f)=true∧Binds K fd ps []∧cN P w K mg base iN k f fd ps sp
theorem Df.jo {P:Program} {w:World} {K:PySem.W.Frag} {mg:Str→Option Value} {base:Heap} {x:Str} {st:Stmt} {ps:List Str} {f:Addr} {fd:FuncData} {k:Nat} {sp:Sp} (D:Df K mg x st ps f fd) (F:cN P w K mg base iN k f fd ps sp):b8 P w K mg base x ps k sp :=
 ⟨f,fd,D.m,D.F.kp,D.b,F⟩
theorem kG {H:Hp} {Ox:List Addr} {i:Nat}:aX ⟨H,[],Ox⟩ i:=fun _ z=>nomatch z
section
variable {P:Program} {w:World} {K:PySem.W.Frag} {mg:Str→Option Value} {base:Heap}
theorem j5 {x qual:Str} {st:Stmt} {f:Addr} {fd:FuncData} {N ps:List Str} {k n:Nat} {G:List T→(Rt→Prop)→Prop} (F:BC K x qual st f fd) (S:aI N ps (aj st)) (hn:n=ps.length)
  (iJ:∀ (bD:Value) (A:Around) (outer:List Env) (s:Shared) (H:Hp) (E:XK) (Ox:List Addr),bp k (A.deeper (envOfC qual (aj st) s.heap.objs.size f bD))→∀ ts q,G ts q →
    ∃ g,lr (dI iN P w K mg base N qual (aj st) f bD A outer s H E).nI ⟨H,[],Ox⟩ (cx st) g∧(ts.length=n→g { nx:=fun _=>q (.vw .bu),rt:=fun _ r=>q r } (ts.map (fun t=>some (t,false)) ++ List.replicate (N.length - ts.length) none))) :
  cN P w K mg base iN (k+1) f fd ps (bW K n G):=by
 have hp:∀ n (as:List Addr) k,pz (List.replicate n false) as k=[]:=by
  intro n
  induction n with
  | zero=>intro as k; rfl
  | succ n ih=>intro as k; exact ih as (k+1)
 have TN:∀ n (ρ:En),lQ (List.replicate n false) ρ=[]:=by
  intro n
  induction n with
  | zero=>intro ρ; rfl
  | succ n ih=>intro ρ; exact ih ρ.tail
 have he:∀ n (ts:List T),ts.length=n→sA (List.replicate n false) ts=ts.map fun t=>some (t,false):=by
  intro n
  induction n with
  | zero=>intro ts e; cases ts <;> simp_all [sA]
  | succ n ih =>
    intro ts e
    cases ts with
    | nil=>simp at e
    | cons t ts=>rw [Q0,sA,ih ts (by simpa using e)]; rfl
 refine TH F S (by rw [E_]; exact hn) fun bD A outer s H E as Ox hr ts q hl hG=>?_
 rw [E_] at hl
 obtain ⟨g,h1,h2⟩:=iJ bD A outer s H E Ox hr ts (q []) hG
 refine ⟨g,by rw [hp]; exact h1,?_⟩
 rw [he n ts hl]
 simp only [TN]
 exact h2 hl
end
theorem bp.fF {k:Nat} {A:Around} (r:bp k A):A.units+101 < cLine:=by have:=r.un; omega
theorem wQ:bootBuiltins "list" = some (.type "list"):=by decide +kernel
theorem kH:bootBuiltins "tuple" = some (.type "tuple"):=by decide +kernel
theorem yS:bootBuiltins "all" = some (.builtin "all"):=by decide +kernel
theorem OU:bootBuiltins "sum" = some (.builtin "sum"):=by decide +kernel
theorem IL:bootBuiltins "int" = some (.type "int"):=by decide +kernel
theorem CF:bootBuiltins "bool" = some (.type "bool"):=by decide +kernel
theorem CG:bootBuiltins "str" = some (.type "str"):=by decide +kernel
theorem nO:∀ {fs:List Bool} {as:List Addr} {k:Nat},∀ p∈pz fs as k,k≤p.1∧fs[p.1 - k]?=some true
 | [],_,_,p,hp=>nomatch hp
 | false :: fs,as,k,p,hp=>by
   obtain ⟨h1,h2⟩:=nO (fs:=fs) (as:=as) (k:=k+1) p hp
   refine ⟨by omega,?_⟩
   have:p.1 - k=(p.1 - (k+1))+1:=by omega
   rw [this]; simpa using h2
 | true :: fs,a :: as,k,p,hp=>by
   rcases dD.mp hp with z | z
   · subst z; exact ⟨dX _,by simp⟩
   · obtain ⟨h1,h2⟩:=nO (fs:=fs) (as:=as) (k:=k+1) p z
     refine ⟨by omega,?_⟩
     have:p.1 - k=(p.1 - (k+1))+1:=by omega
     rw [this]; simpa using h2
 | true :: fs,[],k,p,hp=>by
   obtain ⟨h1,h2⟩:=nO (fs:=fs) (as:=[]) (k:=k+1) p hp
   refine ⟨by omega,?_⟩
   have:p.1 - k=(p.1 - (k+1))+1:=by omega
   rw [this]; simpa using h2
theorem CH {H:Hp} {fs:List Bool} {as Ox:List Addr} {i:Nat} (h:fs[i]?≠some true):aX ⟨H,pz fs as 0,Ox⟩ i:=fun p hp e=>by
 have:=(nO p hp).2
 rw [Nat.sub_zero,e] at this
 exact h this
theorem gP (lo:Int) (n:Nat):(rangeT lo n).length=n:=by unfold rangeT; rw [bZ,EJ]
theorem oN {lo:Int} {n i:Nat} {t:T} (h:(rangeT lo n)[i]?=some t):i < n∧t = .int (lo+(i:Int)):=by
 unfold rangeT at h
 rw [ly] at h
 cases e:(List.range n)[i]? with
 | none=>rw [e] at h; cases h
 | some j =>
   rw [e] at h
   obtain ⟨h1,h2⟩:=fH.mp e
   rw [List.getElem_range] at h2
   rw [EJ] at h1
   subst h2
   cases h
   exact ⟨h1,rfl⟩
theorem dO {lo:Int} {n:Nat} {h:FG} {g:FS} {d:ID} {ρ:En} (Pv:Nat→En→Prop) (h0:Pv 0 ρ) (hs:∀ (i:Nat) ρ',i < n→Pv i ρ'→h (.int (lo+(i:Int))) ρ' fun ρ2=>g { nx:=Pv (i+1),ct:=Pv (i+1),bk:=d.nx,rt:=d.rt } ρ2)
 (hd:∀ ρ',Pv n ρ'→d.nx ρ'):uM (rangeT lo n) h g d ρ:=⟨Pv,h0,fun i t ρ' e p=>by obtain ⟨h1,rfl⟩:=oN e; exact hs i ρ' h1 p,fun ρ' p=>hd ρ' (by rw [gP] at p; exact p)⟩
theorem uW {α:Type} {f:α→T} {xs:List α} {h:FG} {g:FS} {d:ID} {ρ:En} (Pv:Nat→En→Prop) (h0:Pv 0 ρ) (hs:∀ (i:Nat) x ρ',xs[i]?=some x→Pv i ρ'→h (f x) ρ' fun ρ2=>g { nx:=Pv (i+1),ct:=Pv (i+1),bk:=d.nx,rt:=d.rt } ρ2)
 (hd:∀ ρ',Pv xs.length ρ'→d.nx ρ'):uM (xs.map f) h g d ρ:=⟨Pv,h0,fun i t ρ' e p=>by
   rw [ly] at e
   cases q:xs[i]? with
   | none=>rw [q] at e; cases e
   | some x=>rw [q] at e; cases e; exact hs i x ρ' q p,fun ρ' p=>hd ρ' (by rw [bZ] at p; exact p)⟩
theorem Li {c:Bool} {A B:Prop} (hc:c=true) (h:A):if c=true then A else B:=by rw [if_pos hc]; exact h
theorem gQ {c:Bool} {A B:Prop} (hc:c=false) (h:B):if c=true then A else B:=by rw [if_neg (by rw [hc]; exact qa)]; exact h
theorem b_ {c A B:Prop} [Decidable c] (h1:c→A) (h2:¬ c→B):if decide c=true then A else B:=by
 by_cases h:c
 · rw [if_pos (decide_eq_true h)]; exact h1 h
 · rw [if_neg (by rw [decide_eq_false h]; exact qa)]; exact h2 h
section
variable {prog:Program} {w:World} {A:Around} {E:Value→Shared→Prop} {s:Shared}
theorem kJ {it t:Addr} {i:Nat} {items:Array Value} {x:Value} {Q:Value→Shared→Prop} (hit:s.heap.IsTupleIter it t i) (ht:s.heap.IsTuple t items) (hx:items[i]?=some x)
  (hQ:∀ h',h'.IsTupleIter it t (i+1)→Heap.SameBut it s.heap h'→Q x { s with heap:=h' }):wpAny (model prog w) A (Builtin.SmallTypes.nextOf (.ref it)) Q E s:=by
 obtain ⟨o,ho,hc,hd⟩:=id hit
 obtain ⟨ol,Gk,_,nl,EW⟩:=ht
 unfold Builtin.SmallTypes.nextOf
 refine wpAny_bind (wpAny_callSpecial?_slot (name:=Str.ofString "__next__") hit.typeIs QP
  (wpAny_call_entry QP hit.typeIs F.entry_tuple_iterator_next ?_ (F.args_tuple_iterator_next_1 _)))
 show wpAny _ _ (field (.ref it) 0 >>= _) _ _ s
 refine wpAny_bind (wpAny_field ho hd (x:=.ref t) rfl ?_)
 show wpAny _ _ (if (Value.ref t == Value.none)=true then _ else _) _ _ s
 rw [if_neg (show ¬ ((Value.ref t == Value.none)=true) from qa)]
 show wpAny _ _ (field (.ref it) 1 >>= _) _ _ s
 refine wpAny_bind (wpAny_field ho hd (x:=.int i 0) rfl ?_)
 show wpAny _ _ (seqItems? (.ref t) >>= _) _ _ s
 refine wpAny_bind (wpAny_seqItems Gk EW ?_)
 simp only [Ia,hx]
 refine wpAny_bind (wpAny_setField ho hd (by simp) (wpAny_pure ⟨x,rfl,wpAny_pure (hQ _ ?_ (Heap.SameBut.update ..))⟩))
 exact ⟨_,Jt _ ho (Nq (Jw hd _)),(Obj.cls_mapFields ..).trans hc,by
  rw [Jw hd]; simp [rawInt]⟩
theorem lY {it t:Addr} {i:Nat} {items:Array Value} {Q:Value→Shared→Prop} (hh:A.handled=none) (hit:s.heap.IsTupleIter it t i) (ht:s.heap.IsTuple t items) (hx:items[i]?=none)
  (hE:∀ h' e,Heap.ExtBut it s.heap h'→(∃ o,h'.get? e=some o∧o.cls = .type "StopIteration")→E (.ref e) { s with heap:=h' }):wpAny (model prog w) A (Builtin.SmallTypes.nextOf (.ref it)) Q E s:=by
 obtain ⟨o,ho,hc,hd⟩:=id hit
 obtain ⟨ol,Gk,_,nl,EW⟩:=ht
 unfold Builtin.SmallTypes.nextOf
 refine wpAny_bind (wpAny_callSpecial?_slot (name:=Str.ofString "__next__") hit.typeIs QP
  (wpAny_call_entry QP hit.typeIs F.entry_tuple_iterator_next ?_ (F.args_tuple_iterator_next_1 _)))
 show wpAny _ _ (field (.ref it) 0 >>= _) _ _ s
 refine wpAny_bind (wpAny_field ho hd (x:=.ref t) rfl ?_)
 show wpAny _ _ (if (Value.ref t == Value.none)=true then _ else _) _ _ s
 rw [if_neg (show ¬ ((Value.ref t == Value.none)=true) from qa)]
 show wpAny _ _ (field (.ref it) 1 >>= _) _ _ s
 refine wpAny_bind (wpAny_field ho hd (x:=.int i 0) rfl ?_)
 show wpAny _ _ (seqItems? (.ref t) >>= _) _ _ s
 refine wpAny_bind (wpAny_seqItems Gk EW ?_)
 simp only [Ia,hx]
 refine wpAny_bind (wpAny_rule (wpAny_bind (wpAny_setField ho hd (by simp) ?_)))
 show wpAny _ _ (newExc (.type "StopIteration") [] >>= _) _ _ _
 refine wpAny_bind ?_
 simp only [newExc,newTuple]
 refine wpAny_bind (wpAny_newObj_type ?_ (by size_fits))
 refine wpAny_bind (m:=firstArgMember _ _) (wpAny_of_eq (a:=Value.none) (by first | rfl | (simp only [firstArgMember]; rfl)) ?_)
 refine wpAny_newObj_type ?_ (by size_fits)
 simp only [raiseNew]
 refine wpAny_bind (wpAny_handled ?_)
 first | rw [show A.in1.handled=none from hh] | rw [hh]
 refine wpAny_bind (wpAny_pure (wpAny_throw ?_))
 exact hE _ _ (((Heap.SameBut.update ..).extBut.push _).push _) ⟨_,nE _ rfl,rfl⟩
end
structure Part (prog:Program) (w:World) (i:Addr) (fp:List Addr) (n:Nat) (Pv:Nat→Value→Prop) (st:Nat→Heap→Prop):Prop where
 draws:∀ A:Around,A.handled=none→Draws prog w A i fp n Pv st
 mem:i∈fp
 fld:∀ k h,st k h→∃ o vs,h.get? i=some o∧o.data = .fields vs
theorem zW {prog:Program} {w:World} (it l:Addr) (qb:l≠it) (items:Array Value):Part prog w it [it,l] items.size (fun i v=>items[i]?=some v) (fun i h=>h.IsListIter it l i∧h.IsList l items) :=
 ⟨fun A hh=>Draws.list hh it l qb items,by simp,fun k h st=>let ⟨⟨o,e,_,d⟩,_⟩:=st; ⟨o,_,e,d⟩⟩
theorem wR {prog:Program} {w:World} (it l:Addr) (qb:l≠it) (items:Array Value):Part prog w it [it,l] items.size (fun i v=>items[i]?=some v) (fun i h=>h.IsTupleIter it l i∧h.IsTuple l items) :=
 ⟨fun A hh=>{ live:=fun _ _ st=>let ⟨o,ho,_⟩:=st.1; ⟨o,ho⟩
              frame:=fun _ _ _ st hk=>⟨let ⟨o,ho,r⟩:=st.1; ⟨o,hk it (by simp) o ho,r⟩,let ⟨o,ho,r⟩:=st.2; ⟨o,hk l (by simp) o ho,r⟩⟩
              item:=fun i s Q E hi st hQ=>kJ st.1 st.2 (x:=items[i]) (by simp [hi]) fun h' TQ Ru=>hQ _ h' s.toks (by simp [hi]) ⟨TQ,st.2.extBut Ru.extBut qb⟩ Ru
              done:=fun s Q E st hE=>lY hh st.1 st.2 (by simp) hE },by simp,fun k h st=>let ⟨⟨o,e,_,d⟩,_⟩:=st; ⟨o,_,e,d⟩⟩
theorem CI {prog:Program} {w:World} (it:Addr) (x:Str) (t:Tok):Part prog w it [it] x.cps.size (fun i v=>∃ c u,x.cps[i]?=some c∧v = .str ⟨#[c]⟩ u) (fun i h=>h.IsStrIter it (strIterType x) x t i):=by
 rcases cP x with z | z
 · rw [z]; exact ⟨fun A hh=>Draws.strAscii hh it x t,by simp,fun k h st=>let ⟨o,e,_,d⟩:=st; ⟨o,_,e,d⟩⟩
 · rw [z]; exact ⟨fun A hh=>Draws.strWide hh it x t,by simp,fun k h st=>let ⟨o,e,_,d⟩:=st; ⟨o,_,e,d⟩⟩
structure Apart (z TI TO i1 i2:Addr) (oO nP:List Addr):Prop where
 TIz:TI≠z
 TOz:TO≠z
 i1z:i1≠z
 i2z:i2≠z
 TITO:TI≠TO
 TIi1:TI≠i1
 TIi2:TI≠i2
 TOi1:TO≠i1
 TOi2:TO≠i2
 i12:i1≠i2
 z1:z∉oO
 z2:z∉nP
 O1:TO∉oO
 O2:TO∉nP
 x1:i2∉oO
 x2:i1∉nP
section
variable {prog:Program} {w:World} {A:Around} {E:Value→Shared→Prop} {s:Shared} {z TI TO i1 i2:Addr} {oO nP:List Addr} {n1 n2:Nat} {P1 P2:Nat→Value→Prop} {S1 S2:Nat→Heap→Prop}
theorem CJ {k:Nat} {a b:Value} {Q:Value→Shared→Prop} (hh:A.handled=none) (D:Apart z TI TO i1 i2 oO nP) (p1:Part prog w i1 oO n1 P1 S1) (p2:Part prog w i2 nP n2 P2 S2)
  (hz:IsZip s.heap z TI TO .none) (Gm:IsPair s.heap TI (.ref i1) (.ref i2)) (Gn:IsPair s.heap TO a b) (h1:S1 k s.heap) (h2:S2 k s.heap) (hx:k < n1) (hy:k < n2)
  (hQ:∀ x y h' tk,P1 k x→P2 k y→IsZip h' z TI TO (rawInt s.heap.objs.size)→IsPair h' TO x y→S1 (k+1) h'→S2 (k+1) h'→IsPair h' s.heap.objs.size x y→h'.objs.size=s.heap.objs.size+1 →
    (∀ c o,c≠z→c≠TO→c≠i1→c≠i2→s.heap.get? c=some o→h'.get? c=some o)→Q (.ref s.heap.objs.size) { s with heap:=h',toks:=tk }) :
  wpAny (model prog w) A (Builtin.«zip.__next__» ⟨[.ref z],[]⟩) (fun fin s'=>∃ v,fin = .done (.ret v)∧Q v s') E s:=by
 show wpAny _ _ (field (.ref z) 2 >>= _) _ _ _
 refine wpAny_bind (wpAny_field hz rfl (x:=.bool false) rfl ?_)
 show wpAny _ _ (field (.ref z) 3 >>= _) _ _ _
 refine wpAny_bind (wpAny_field hz rfl (x:=.ref TI) rfl ?_)
 refine wpAny_bind (wpAny_seqItems Gm rfl ?_)
 show wpAny _ _ (Builtin.SmallTypes.ownedTupleIsFree (.ref z) >>= _) _ _ _
 refine wpAny_bind ?_
 unfold Builtin.SmallTypes.ownedTupleIsFree
 refine wpAny_bind (wpAny_field hz rfl (x:=.none) rfl (wpAny_pure ?_))
 simp only [if_true]
 refine wpAny_bind (wpAny_rule ?_)
 refine wpAny_bind (wpAny_field hz rfl (x:=.ref TO) rfl ?_)
 refine wpAny_bind (wpAny_setField_rec hz (by simp) fun h₁ Cb BE=>?_)
 replace Cb:IsZip h₁ z TI TO .ellipsis:=Cb
 refine wpAny_bind ?_
 simp only [List.zipIdx_cons,List.zipIdx_nil,List.forIn_cons,List.forIn_nil]
 have f1:∀ {m h h' c},c∉oO→S1 m h→Heap.SameBut c h h'→S1 m h':=fun {m h h' c} hc st sb=>(p1.draws A hh).frame m h h' st fun b hb o e=>sb.extBut b o (fun q=>hc (q▸hb)) e
 have f2:∀ {m h h' c},c∉nP→S2 m h→Heap.SameBut c h h'→S2 m h':=fun {m h h' c} hc st sb=>(p2.draws A hh).frame m h h' st fun b hb o e=>sb.extBut b o (fun q=>hc (q▸hb)) e
 refine wpAny_bind (wpAny_bind (wpAny_onRaise ?_))
 show wpAny _ _ (Builtin.SmallTypes.nextOf (.ref i1) >>= _) _ _ _
 refine wpAny_bind ((p1.draws _ hh).item k _ _ _ hx (f1 D.z1 h1 BE) fun x h₂ XI px Wg qk=>wpAny_pure ?_)
 replace qk:Heap.SameBut i1 h₁ h₂:=qk
 have CK:IsPair h₂ TO a b:=qk.extBut _ _ D.TOi1 (BE.extBut _ _ D.TOz Gn)
 refine wpAny_bind (wpAny_seqItems CK rfl ?_)
 refine wpAny_bind (wpAny_updateSeq_pair CK fun h₃ Gp wa=>?_)
 replace Gp:IsPair h₃ TO x b:=Gp
 replace wa:Heap.SameBut TO h₂ h₃:=wa
 refine wpAny_bind (wpAny_letGo (wpAny_pure ?_))
 refine wpAny_bind (wpAny_bind (wpAny_onRaise ?_))
 show wpAny _ _ (Builtin.SmallTypes.nextOf (.ref i2) >>= _) _ _ _
 refine wpAny_bind ((p2.draws _ hh).item k _ _ _ hy (f2 D.O2 (f2 D.x2 (f2 D.z2 h2 BE) qk) wa) fun y h₄ XJ py XM EY=>wpAny_pure ?_)
 replace EY:Heap.SameBut i2 h₃ h₄:=EY
 have OW:IsPair h₄ TO x b:=EY.extBut _ _ D.TOi2 Gp
 refine wpAny_bind (wpAny_seqItems OW rfl ?_)
 refine wpAny_bind (wpAny_updateSeq_pair OW fun h₅ Gq EZ=>?_)
 replace Gq:IsPair h₅ TO x y:=Gq
 replace EZ:Heap.SameBut TO h₄ h₅:=EZ
 refine wpAny_bind (wpAny_letGo (wpAny_pure (wpAny_pure ?_)))
 refine wpAny_bind (wpAny_seqItems Gq rfl ?_)
 refine wpAny_bind (wpAny_newTuple ?_)
 have q9:h₅.objs.size=s.heap.objs.size:=by rw [EZ.1,EY.1,wa.1,qk.1,BE.1]
 have Wh:IsZip h₅ z TI TO .ellipsis:=EZ.extBut _ _ D.TOz.symm (EY.extBut _ _ D.i2z.symm (wa.extBut _ _ D.TOz.symm (qk.extBut _ _ D.i1z.symm Cb)))
 have XN:∀ c o,c≠z→c≠TO→c≠i1→c≠i2→s.heap.get? c=some o→h₅.get? c=some o:=fun c o c1 c2 c3 c4 e =>
  EZ.extBut _ _ c2 (EY.extBut _ _ c4 (wa.extBut _ _ c2 (qk.extBut _ _ c3 (BE.extBut _ _ c1 e))))
 have XO:S1 (k+1) h₅:=f1 D.O1 (f1 D.x1 (f1 D.O1 Wg wa) EY) EZ
 have XQ:S2 (k+1) h₅:=f2 D.O2 XM EZ
 have OX:z < h₅.objs.size:=dG Wh
 show wpAny _ _ (Builtin.SmallTypes.ownedTupleHandOut (.ref z) (.ref h₅.objs.size) >>= _) _ _ _
 refine wpAny_bind ?_
 unfold Builtin.SmallTypes.ownedTupleHandOut
 have XR:IsZip (h₅.push { cls:=.type "tuple",data:=.seq #[x,y] }) z TI TO .ellipsis:=de _ Wh
 refine wpAny_bind (wpAny_setField_rec XR (by simp) fun h₇ TR TU=>?_)
 replace TR:IsZip h₇ z TI TO (rawInt h₅.objs.size):=TR
 refine wpAny_setField_rec TR (by simp) fun h₈ Rv TV=>?_
 replace Rv:IsZip h₈ z TI TO (rawInt h₅.objs.size):=Rv
 have up:∀ c o,c≠z→h₅.get? c=some o→h₈.get? c=some o:=fun c o c1 e=>TV.extBut _ _ c1 (TU.extBut _ _ c1 (de _ e))
 have Wi:IsPair h₈ h₅.objs.size x y:=TV.extBut _ _ (Bu OX) (TU.extBut _ _ (Bu OX) (nE _ rfl))
 have Wj:h₈.objs.size=h₅.objs.size+1:=by rw [TV.1,TU.1,wc]
 have XT:S1 (k+1) h₈:=(p1.draws A hh).frame _ _ _ XO fun b hb o e=>up b o (fun q=>D.z1 (q▸hb)) e
 have XU:S2 (k+1) h₈:=(p2.draws A hh).frame _ _ _ XQ fun b hb o e=>up b o (fun q=>D.z2 (q▸hb)) e
 rw [q9] at Rv Wi Wj
 refine wpAny_pure ⟨_,rfl,?_⟩
 show Q (.ref h₅.objs.size) _
 rw [q9]
 exact hQ x y h₈ XJ px py Rv (up _ _ D.TOz Gq) XT XU Wi Wj fun c o c1 c2 c3 c4 e=>up c o c1 (XN c o c1 c2 c3 c4 e)
theorem Gr {k:Nat} {a b:Value} {Q:PySem.Fin→Shared→Prop} (hh:A.handled=none) (D:Apart z TI TO i1 i2 oO nP) (p1:Part prog w i1 oO n1 P1 S1) (p2:Part prog w i2 nP n2 P2 S2)
  (hz:IsZip s.heap z TI TO .none) (Gm:IsPair s.heap TI (.ref i1) (.ref i2)) (Gn:IsPair s.heap TO a b) (h1:S1 k s.heap) (h2:S2 k s.heap) (Lj:k=n1∨(k < n1∧k=n2))
  (hE:∀ h' tk e,(∀ c o,c≠z→c≠TO→c≠i1→c≠i2→s.heap.get? c=some o→h'.get? c=some o)→(∃ o,h'.get? e=some o∧o.cls = .type "StopIteration")→E (.ref e) { s with heap:=h',toks:=tk }) :
  wpAny (model prog w) A (Builtin.«zip.__next__» ⟨[.ref z],[]⟩) Q E s:=by
 have f1:∀ {m h h' c},c∉oO→S1 m h→Heap.SameBut c h h'→S1 m h':=fun {m h h' c} hc st sb=>(p1.draws A hh).frame m h h' st fun b hb o e=>sb.extBut b o (fun q=>hc (q▸hb)) e
 have f2:∀ {m h h' c},c∉nP→S2 m h→Heap.SameBut c h h'→S2 m h':=fun {m h h' c} hc st sb=>(p2.draws A hh).frame m h h' st fun b hb o e=>sb.extBut b o (fun q=>hc (q▸hb)) e
 show wpAny _ _ (field (.ref z) 2 >>= _) _ _ _
 refine wpAny_bind (wpAny_field hz rfl (x:=.bool false) rfl ?_)
 show wpAny _ _ (field (.ref z) 3 >>= _) _ _ _
 refine wpAny_bind (wpAny_field hz rfl (x:=.ref TI) rfl ?_)
 refine wpAny_bind (wpAny_seqItems Gm rfl ?_)
 show wpAny _ _ (Builtin.SmallTypes.ownedTupleIsFree (.ref z) >>= _) _ _ _
 refine wpAny_bind ?_
 unfold Builtin.SmallTypes.ownedTupleIsFree
 refine wpAny_bind (wpAny_field hz rfl (x:=.none) rfl (wpAny_pure ?_))
 simp only [if_true]
 refine wpAny_bind (wpAny_rule ?_)
 refine wpAny_bind (wpAny_field hz rfl (x:=.ref TO) rfl ?_)
 refine wpAny_bind (wpAny_setField_rec hz (by simp) fun h₁ Cb BE=>?_)
 replace Cb:IsZip h₁ z TI TO .ellipsis:=Cb
 refine wpAny_bind ?_
 simp only [List.zipIdx_cons,List.zipIdx_nil,List.forIn_cons,List.forIn_nil]
 refine wpAny_bind (wpAny_bind (wpAny_onRaise ?_))
 show wpAny _ _ (Builtin.SmallTypes.nextOf (.ref i1) >>= _) _ _ _
 rcases Lj with rfl | ⟨fz,rfl⟩
 · refine wpAny_bind ((p1.draws _ hh).done _ _ _ (f1 D.z1 h1 BE) fun h₂ e qk he=>?_)
   obtain ⟨oe,Ll,OY⟩:=he
   have Rx:IsZip h₂ z TI TO .ellipsis:=qk _ _ D.i1z.symm Cb
   have TX:e≠z:=fun x=>by subst x; rw [Rx] at Ll; cases Ll; simp at OY
   refine wpAny_setField_rec Rx (by simp) fun h₃ _ wa=>hE h₃ _ e (fun c o c1 _ c3 _ x=>wa.extBut _ _ c1 (qk _ _ c3 (BE.extBut _ _ c1 x))) ⟨oe,wa.extBut _ _ TX Ll,OY⟩
 · refine wpAny_bind ((p1.draws _ hh).item k _ _ _ fz (f1 D.z1 h1 BE) fun x h₂ XI px Wg qk=>wpAny_pure ?_)
   replace qk:Heap.SameBut i1 h₁ h₂:=qk
   have CK:IsPair h₂ TO a b:=qk.extBut _ _ D.TOi1 (BE.extBut _ _ D.TOz Gn)
   refine wpAny_bind (wpAny_seqItems CK rfl ?_)
   refine wpAny_bind (wpAny_updateSeq_pair CK fun h₃ Gp wa=>?_)
   replace wa:Heap.SameBut TO h₂ h₃:=wa
   refine wpAny_bind (wpAny_letGo (wpAny_pure ?_))
   refine wpAny_bind (wpAny_bind (wpAny_onRaise ?_))
   show wpAny _ _ (Builtin.SmallTypes.nextOf (.ref i2) >>= _) _ _ _
   refine wpAny_bind ((p2.draws _ hh).done _ _ _ (f2 D.O2 (f2 D.x2 (f2 D.z2 h2 BE) qk) wa) fun h₄ e EY he=>?_)
   obtain ⟨oe,Ll,OY⟩:=he
   have Wl:IsZip h₄ z TI TO .ellipsis:=EY _ _ D.i2z.symm (wa.extBut _ _ D.TOz.symm (qk.extBut _ _ D.i1z.symm Cb))
   have TX:e≠z:=fun x=>by subst x; rw [Wl] at Ll; cases Ll; simp at OY
   refine wpAny_setField_rec Wl (by simp) fun h₅ _ EZ=>hE h₅ _ e (fun c o c1 c2 c3 c4 x=>EZ.extBut _ _ c1 (EY _ _ c4 (wa.extBut _ _ c2 (qk.extBut _ _ c3 (BE.extBut _ _ c1 x))))) ⟨oe,EZ.extBut _ _ TX Ll,OY⟩
theorem ng {k:Nat} {a b:Value} {Q:Option Value→Shared→Prop} (hh:A.handled=none) (D:Apart z TI TO i1 i2 oO nP) (p1:Part prog w i1 oO n1 P1 S1) (p2:Part prog w i2 nP n2 P2 S2)
  (hz:IsZip s.heap z TI TO .none) (Gm:IsPair s.heap TI (.ref i1) (.ref i2)) (Gn:IsPair s.heap TO a b) (h1:S1 k s.heap) (h2:S2 k s.heap) (hx:k < n1) (hy:k < n2)
  (hQ:∀ x y h' tk,P1 k x→P2 k y→IsZip h' z TI TO (rawInt s.heap.objs.size)→IsPair h' TO x y→S1 (k+1) h'→S2 (k+1) h'→IsPair h' s.heap.objs.size x y→h'.objs.size=s.heap.objs.size+1 →
    (∀ c o,c≠z→c≠TO→c≠i1→c≠i2→s.heap.get? c=some o→h'.get? c=some o)→Q (some (.ref s.heap.objs.size)) { s with heap:=h',toks:=tk }):wpAny (model prog w) A (pyNext (.ref z)) Q E s:=by
 have hT:s.TypeIs (.ref z) "zip":=⟨_,hz,rfl⟩
 unfold pyNext
 exact wpAny_bind (wpAny_attempt (wpAny_callSpecial?_slot (name:=Str.ofString "__next__") hT F.slot_zip_next
  (wpAny_call_entry F.slot_zip_next hT F.entry_zip_next
    (CJ hh D p1 p2 hz Gm Gn h1 h2 hx hy fun x y h' tk q1 q2 a1 a2 a3 a4 a5 a6 a7=>wpAny_pure (hQ x y h' tk q1 q2 a1 a2 a3 a4 a5 a6 a7)) (F.args_zip_next_1 _))))
theorem oP {k:Nat} {a b:Value} {Q:Option Value→Shared→Prop} (hh:A.handled=none) (D:Apart z TI TO i1 i2 oO nP) (p1:Part prog w i1 oO n1 P1 S1) (p2:Part prog w i2 nP n2 P2 S2)
  (hz:IsZip s.heap z TI TO .none) (Gm:IsPair s.heap TI (.ref i1) (.ref i2)) (Gn:IsPair s.heap TO a b) (h1:S1 k s.heap) (h2:S2 k s.heap) (Lj:k=n1∨(k < n1∧k=n2))
  (hQ:∀ h' tk,(∀ c o,c≠z→c≠TO→c≠i1→c≠i2→s.heap.get? c=some o→h'.get? c=some o)→Q none { s with heap:=h',toks:=tk }):wpAny (model prog w) A (pyNext (.ref z)) Q E s:=by
 have hT:s.TypeIs (.ref z) "zip":=⟨_,hz,rfl⟩
 unfold pyNext
 refine wpAny_bind (wpAny_attempt (wpAny_callSpecial?_slot (name:=Str.ofString "__next__") hT F.slot_zip_next
  (wpAny_call_entry F.slot_zip_next hT F.entry_zip_next (Gr hh D p1 p2 hz Gm Gn h1 h2 Lj fun h' tk e hk he=>?_) (F.args_zip_next_1 _))))
 obtain ⟨o,ho,hc⟩:=he
 refine wpAny_bind (wpAny_isInstance (T:="StopIteration") (b:=true) ⟨o,ho,hc⟩ isSubtype_stop ?_)
 exact wpAny_pure (hQ _ _ hk)
end
def TY (i:Int):Prop:=i.natAbs < 2 ^ 2000
theorem TY.of {i:Int} (h1 : -(10 ^ 200)≤i) (h2:i≤10 ^ 200):TY i:=by
 unfold TY
 have e:(10:Nat) ^ 200 < 2 ^ 2000:=by decide
 have:i.natAbs≤10 ^ 200:=by
  have e2:((10 ^ 200:Nat):Int)=(10:Int) ^ 200:=by rw [Int.natCast_pow]; rfl
  generalize (10:Nat) ^ 200=m at *
  rw [← e2] at h1 h2
  omega
 exact Nat.lt_of_le_of_lt this e
section
variable {X:Cx}
end
section
variable {X:Cx} {Z:Zc} {a b:Expr} {fa fb:FE} {pos:Pos}
end
def iW (v:Value) (o:Obj) (c:Heap→Prop):Prop:=∀ (prog:Program) (w:World) (A:Around) (E:Value→Shared→Prop) (s:Shared) (Q:Value→Shared→Prop),c s.heap →
 Q (.ref s.heap.objs.size) { s with heap:=s.heap.push o }→wpAny (model prog w) A (pyIter v) Q E s
theorem uX (l:Addr) (items:Array Value):iW (.ref l) { cls:=.type "list_iterator",data:=.fields #[.ref l,.int 0 0] } (fun h=>h.IsList l items):=fun _ _ _ _ _ _ h q=>wpAny_pyIter_list h q
theorem sO (l:Addr) (items:Array Value):iW (.ref l) { cls:=.type "tuple_iterator",data:=.fields #[.ref l,.int 0 0] } (fun h=>h.IsTuple l items):=fun _ _ _ _ _ _ h q=>wpAny_pyIter_tuple h q
theorem wU (x:Str) (t:Tok):iW (.str x t) { cls:=.type (strIterType x),data:=.fields #[.str x t,.int 0 0] } (fun _=>True):=fun _ _ _ _ _ _ _ q=>wpAny_pyIter_strU q
abbrev Ry (h:Heap) (o1 o2:Obj):Heap:=((h.push o1).push o2).push { cls:=.type "tuple",data:=.seq #[.ref h.objs.size,.ref (h.push o1).objs.size] }
abbrev Rz (h:Heap) (o1 o2:Obj):Heap:=(Ry h o1 o2).push { cls:=.type "tuple",data:=.seq #[.none,.none] }
abbrev Lm (h:Heap) (o1 o2:Obj):Heap:=(Rz h o1 o2).push { cls:=.type "zip",data:=.fields #[.none,.bool false,.bool false,.ref ((h.push o1).push o2).objs.size,.ref (Ry h o1 o2).objs.size] }
theorem wV {v1 v2:Value} {o1 o2:Obj} {c1 c2:Heap→Prop} (i1:iW v1 o1 c1) (i2:iW v2 o2 c2) (CL:∀ h o,c2 h→c2 (h.push o)) :
  Meets (Builtin.«zip.__new__» ⟨[.type "zip",v1,v2],[]⟩) (fun _ R s=>c1 s.heap∧c2 s.heap ∧
   R (.ok (.ret (.ref (Rz s.heap o1 o2).objs.size))) { s with heap:=Lm s.heap o1 o2 }) :=
 .of_wp fun prog w A R s h=>by
  obtain ⟨hp,g,d,tk,os⟩:=s; obtain ⟨TZ,Bz,h⟩:=h
  have CM:=sub_zip
  have XW:=CL _ o1 Bz
  have I1:∀ (A:Around) (E:Value→Shared→Prop) (Q:Value→Shared→Prop),Q (.ref hp.objs.size) ⟨hp.push o1,g,d,tk,os⟩→wpAny (model prog w) A (pyIter v1) Q E ⟨hp,g,d,tk,os⟩:=fun A E Q q=>i1 prog w A E _ Q TZ q
  have I2:∀ (A:Around) (E:Value→Shared→Prop) (Q:Value→Shared→Prop),Q (.ref (hp.push o1).objs.size) ⟨(hp.push o1).push o2,g,d,tk,os⟩→wpAny (model prog w) A (pyIter v2) Q E ⟨hp.push o1,g,d,tk,os⟩:=fun A E Q q=>i2 prog w A E _ Q XW q
  wp_walk using I1,I2
  exact ⟨_,rfl,h⟩
section
variable {prog:Program} {w:World} {A:Around} {E:Value→Shared→Prop} {s:Shared}
theorem zX {v1 v2:Value} {o1 o2:Obj} {c1 c2:Heap→Prop} {Q:Value→Shared→Prop} (i1:iW v1 o1 c1) (i2:iW v2 o2 c2) (CL:∀ h o,c2 h→c2 (h.push o)) (h1:c1 s.heap) (h2:c2 s.heap) (T1:o1.isFreed=false) (T3:o2.isFreed=false)
  (h:∀ h',IsZip h' (s.heap.objs.size+4) (s.heap.objs.size+2) (s.heap.objs.size+3) .none→IsPair h' (s.heap.objs.size+2) (.ref s.heap.objs.size) (.ref (s.heap.objs.size+1)) →
    IsPair h' (s.heap.objs.size+3) .none .none→h'.get? s.heap.objs.size=some o1→h'.get? (s.heap.objs.size+1)=some o2→h'.objs.size=s.heap.objs.size+5 →
    (∀ c o,s.heap.get? c=some o→h'.get? c=some o)→Q (.ref (s.heap.objs.size+4)) { s with heap:=h' }) :
  wpAny (model prog w) A (call (.type "zip") [v1,v2]) Q E s:=by
 refine callType_new F.called_zip (by decide) (F.typeCall_zip_2 _ _) (F.newCall_zip_2 _ _) (fun obj=>F.args_object_init_3 obj _ _) F.entry_zip_new
  (wV i1 i2 CL) ⟨h1,h2,?_⟩
 have z1:(s.heap.push o1).objs.size=s.heap.objs.size+1:=wc ..
 have z2:((s.heap.push o1).push o2).objs.size=s.heap.objs.size+2:=by rw [wc,z1]
 have z3:(Ry s.heap o1 o2).objs.size=s.heap.objs.size+3:=by rw [wc,z2]
 have z4:(Rz s.heap o1 o2).objs.size=s.heap.objs.size+4:=by rw [wc,z3]
 have z5:(Lm s.heap o1 o2).objs.size=s.heap.objs.size+5:=by rw [wc,z4]
 have g5:(Lm s.heap o1 o2).get? (Rz s.heap o1 o2).objs.size=some _:=nE _ rfl
 have g4:(Lm s.heap o1 o2).get? (Ry s.heap o1 o2).objs.size=some _:=de _ (nE _ rfl)
 have g3:(Lm s.heap o1 o2).get? ((s.heap.push o1).push o2).objs.size=some _:=de _ (de _ (nE _ rfl))
 have g2:(Lm s.heap o1 o2).get? (s.heap.push o1).objs.size=some _:=de _ (de _ (de _ (nE _ T3)))
 have g1:(Lm s.heap o1 o2).get? s.heap.objs.size=some _:=de _ (de _ (de _ (de _ (nE _ T1))))
 show _∧_
 rw [z2,z3,z4] at g5
 rw [z1,z2] at g3
 rw [z3] at g4
 rw [z1] at g2
 rw [z4]
 exact ⟨⟨_,g5,rfl⟩,h _ g5 g3 g4 g1 g2 z5 fun c o x =>
  de _ (de _ (de _ (de _ (de _ x))))⟩
end
structure zY (P:Program) (w:World) (K:PySem.W.Frag) (i:Addr) (fp:List Addr) (sq:Hp→List V→Prop) (it:Nat→Heap→Prop):Prop where
 part:∀ (X:Cx) (pins:List (Addr×Obj)) (σ:St) (H:Hp) (s:Shared),X.prog=P→X.w=w→X.K=K→Inv X pins σ H s→∀ xs,sq H xs →
  ∃ (Pv:Nat→Value→Prop) (S:Nat→Heap→Prop),Part P w i fp xs.length Pv S∧(∀ k v,Pv k v→∃ x,xs[k]?=some x∧RelV x v)∧(∀ k h,S k h→it k h)∧∀ k,it k s.heap→S k s.heap
 keep:∀ k h h',it k h→(∀ o,h.get? i=some o→h'.get? i=some o)→it k h'
 obj:∀ k h,it k h→∃ o,h.get? i=some o∧∀ v,o.data≠.cell v
 inj:∀ (X:Cx) (pins:List (Addr×Obj)) (σ:St) (H:Hp) (s:Shared),X.K=K→Inv X pins σ H s→∀ xs ys,sq H xs→sq H ys→xs=ys
theorem src_list {P:Program} {w:World} {K:PySem.W.Frag} (i l:Addr) (qb:l≠i):zY P w K i [i,l] (fun H xs=>eJ K H l xs) (fun k h=>h.IsListIter i l k) where
 part:=fun X pins σ H s hP hw hK I xs hq=>by
  subst hP hw hK
  obtain ⟨aP,rv,p,hz⟩:=I.list hq
  have e:aP.toArray.size=xs.length:=by simp [rv.length]
  refine ⟨_,_,e▸zW i l qb aP.toArray,fun k v hv=>?_,fun k h st=>st.1,fun k st=>⟨st,p.isList⟩⟩
  have wW:aP[k]?=some v:=by simpa using hv
  have hk:k < xs.length:=by rw [← e]; simp; exact (fH.mp wW).1
  obtain ⟨u,hu,ru⟩:=rv.get (show xs[k]?=some xs[k] by simp)
  rw [wW] at hu
  cases hu
  exact ⟨_,by simp,ru⟩
 keep:=fun k h h' st q=>st.at q
 obj:=fun k h st=>let ⟨o,e,_,d⟩:=st; ⟨o,e,fun v z=>by rw [d] at z; cases z⟩
 inj:=fun X pins σ H s hK I xs ys h1 h2=>by subst hK; exact I.kq h1 h2
theorem src_tuple {P:Program} {w:World} {K:PySem.W.Frag} (i l:Addr) (qb:l≠i):zY P w K i [i,l] (fun H xs=>dF K H l xs) (fun k h=>h.IsTupleIter i l k) where
 part:=fun X pins σ H s hP hw hK I xs hq=>by
  subst hP hw hK
  obtain ⟨aP,rv,p,hz⟩:=I.tuple hq
  have e:aP.toArray.size=xs.length:=by simp [rv.length]
  refine ⟨_,_,e▸wR i l qb aP.toArray,fun k v hv=>?_,fun k h st=>st.1,fun k st=>⟨st,p⟩⟩
  have wW:aP[k]?=some v:=by simpa using hv
  have hk:k < xs.length:=by rw [← e]; simp; exact (fH.mp wW).1
  obtain ⟨u,hu,ru⟩:=rv.get (show xs[k]?=some xs[k] by simp)
  rw [wW] at hu
  cases hu
  exact ⟨_,by simp,ru⟩
 keep:=fun k h h' st q=>let ⟨o,e,r⟩:=st; ⟨o,q o e,r⟩
 obj:=fun k h st=>let ⟨o,e,_,d⟩:=st; ⟨o,e,fun v z=>by rw [d] at z; cases z⟩
 inj:=fun X pins σ H s hK I xs ys h1 h2=>by subst hK; exact I.lC h1 h2
def wX (x:Str):List V:=x.cps.toList.map fun c=>.str ⟨#[c]⟩
theorem Gs {P:Program} {w:World} {K:PySem.W.Frag} (i:Addr) (x:Str) (t:Tok):zY P w K i [i] (fun _ xs=>xs=wX x) (fun k h=>h.IsStrIter i (strIterType x) x t k) where
 part:=fun X pins σ H s hP hw hK I xs hq=>by
  subst hP hw hK hq
  have e:x.cps.size=(wX x).length:=by unfold wX; simp
  refine ⟨_,_,e▸CI i x t,fun k v hv=>?_,fun k h st=>st,fun k st=>st⟩
  obtain ⟨c,u,h1,rfl⟩:=hv
  exact ⟨.str ⟨#[c]⟩,by unfold wX; rw [ly]; simp [h1],u,rfl⟩
 keep:=fun k h h' st q=>let ⟨o,e,r⟩:=st; ⟨o,q o e,r⟩
 obj:=fun k h st=>let ⟨o,e,_,d⟩:=st; ⟨o,e,fun v z=>by rw [d] at z; cases z⟩
 inj:=fun X pins σ H s hK I xs ys h1 h2=>by rw [h1,h2]
section
variable {X:Cx} {pins:List (Addr×Obj)} {σ:St} {H H':Hp} {s:Shared} {h':Heap}
theorem Gu {t':Nat} {ch:List Addr} (I:Inv X pins σ H s) (k:∀ b u,b∉ch→s.heap.get? b=some u→h'.get? b=some u) (hf:∀ b∈ch,lF X pins H b):Inv X pins σ H { s with heap:=h',toks:=t' }:=by
 have BM:∀ b u,H b=some u→b∉ch:=fun b u e z=>by rw [(hf b z).1] at e; cases e
 refine I.step (g':=s.gens) (d':=s.drawn) (ch:=ch) (fun b hb=>?_) (fun b u _ _ hc e _=>k b u hc e) (fun b u _ _ hc e _=>⟨u.slots,k b u hc e⟩) (fun b u _ e n=>n) (fun b u hc e=>⟨u,k b u hc e⟩)
  (fun b xs e=>e) (fun b u v e=>e) (fun b ps e=>⟨#[],?_⟩) (fun m hm=>?_) (fun b u e=>?_) I.bare
 · obtain ⟨_,f1,_,f3,f4,f5⟩:=hf b hb
   exact ⟨f3,f1,f4,f5⟩
 · rw [e]; simp
 · obtain ⟨ob,es,ep,ho,r⟩:=hm
   exact ⟨ob,es,ep,k _ ob (fun z=>(hf _ z).2.1 rfl) ho,r⟩
 · refine (I.bC b u e).mZ (fun c v hc q=>k c v ?_ q) (fun c q=>q) fun c xs q=>q
   rcases hc with z | z
   · rw [z]; exact BM b u e
   · exact BM c _ z
end
def T4 (wY wZ:Hp→List V→Prop):It :=
 ⟨fun i H=>∃ xs ys,wY H xs∧wZ H ys∧i < xs.length∧i < ys.length,fun i H v H'=>∃ t x y,H t=none∧v = .ref t∧(∀ xs,wY H xs→xs[i]?=some x)∧(∀ ys,wZ H ys→ys[i]?=some y)∧H'=upd H t (.tup [x,y]),
   fun i H=>∃ xs ys,wY H xs∧wZ H ys∧(i=xs.length∨(i < xs.length∧i=ys.length))⟩
theorem CN {P:Program} {w:World} {K:PySem.W.Frag} {elts:List Expr} {x1} {tp:Pos} {z TI TO i1 i2:Addr} {oO nP:List Addr} {wY wZ:Hp→List V→Prop} {t1 t2:Nat→Heap→Prop} (D:Apart z TI TO i1 i2 oO nP) (p1:zY P w K i1 oO wY t1) (p2:zY P w K i2 nP wZ t2) :
  Turn P w K (.Tuple elts x1 tp) (T4 wY wZ) [z,TI,TO,i1,i2] z (fun i h=>IsZip h z TI TO .none∧IsPair h TI (.ref i1) (.ref i2)∧(∃ a b,IsPair h TO a b)∧t1 i h∧t2 i h) where
 mem:=by simp
 obj:=fun i h st b hb=>by
  obtain ⟨h1,h2,⟨a,c,h3⟩,h4,h5⟩:=st
  simp only [dD,d8,or_false] at hb
  rcases hb with rfl | rfl | rfl | rfl | rfl
  · exact ⟨_,h1,fun v q=>by cases q⟩
  · exact ⟨_,h2,fun v q=>by cases q⟩
  · exact ⟨_,h3,fun v q=>by cases q⟩
  · exact p1.obj i h h4
  · exact p2.obj i h h5
 keep:=fun i h h' st k=>by
  obtain ⟨h1,h2,⟨a,c,h3⟩,h4,h5⟩:=st
  exact ⟨k z (by simp) _ h1,k TI (by simp) _ h2,⟨a,c,k TO (by simp) _ h3⟩,p1.keep i h h' h4 fun o q=>k i1 (by simp) o q,p2.keep i h h' h5 fun o q=>k i2 (by simp) o q⟩
 item:=by
  intro X hP hw hK hc i pins s σ H E I hf st hg
  obtain ⟨xs,ys,RA,RB,l1,l2⟩:=hg
  obtain ⟨h1,h2,⟨a,c,h3⟩,h4,h5⟩:=st
  obtain ⟨P1,S1,q1,v1,b1,f1⟩:=p1.part X pins σ H s hP hw hK I xs RA
  obtain ⟨P2,S2,q2,v2,b2,f2⟩:=p2.part X pins σ H s hP hw hK I ys RB
  refine ng (I.ok.hd hc) D q1 q2 h1 h2 h3 (f1 i h4) (f2 i h5) l1 l2 fun x y h₁ tk px py Cb T5 s1 s2 XY q9 hk=>?_
  obtain ⟨x',ex,rx⟩:=v1 i x px
  obtain ⟨y',ey,ry⟩:=v2 i y py
  refine ⟨_,rfl,wpAny_letOwnedTupleGo_zip Cb fun h₂ Rx qk=>?_⟩
  have ql:Heap.SameBut z h₁ h₂:=qk
  have fz:z < s.heap.objs.size:=dG h1
  have S9:s.heap.objs.size≠z:=Bu fz
  have kk:∀ b ob,b∉[z,TI,TO,i1,i2]→s.heap.get? b=some ob→h₂.get? b=some ob:=fun b ob hb q=>by
   simp only [dD,d8,or_false,not_or] at hb
   exact (ql.2 b hb.1).trans (hk b ob hb.1 hb.2.2.1 hb.2.2.2.1 hb.2.2.2.2 q)
  have new:bP X.prog X.w (upd H s.heap.objs.size (.tup [x',y'])) h₂ s.heap.objs.size (.tup [x',y']) :=
   ⟨by show 2≤sizeLine; rw [sizeLine_eq]; decide,[x,y],.cons rx (.cons ry .nil),⟨_,(ql.2 _ S9).trans XY,rfl,_,rfl⟩⟩
  refine ⟨.ref s.heap.objs.size,upd H s.heap.objs.size (.tup [x',y']),I.grown (t':=tk) kk hf (dX _) new,rfl,⟨_,x',y',I.fresh,rfl,fun zs hz=>by rw [p1.inj X pins σ H s hK I _ _ hz RA]; exact ex,fun zs hz=>by rw [p2.inj X pins σ H s hK I _ _ hz RB]; exact ey,rfl⟩,⟨Rx,?_,⟨x,y,?_⟩,?_,?_⟩,fun b hb=>?_⟩
  · exact (ql.2 TI D.TIz).trans (hk TI _ D.TIz D.TITO D.TIi1 D.TIi2 h2)
  · exact (ql.2 TO D.TOz).trans T5
  · exact p1.keep _ _ _ (b1 _ _ s1) fun o q=>(ql.2 i1 D.i1z).trans q
  · exact p2.keep _ _ _ (b2 _ _ s2) fun o q=>(ql.2 i2 D.i2z).trans q
  · have S':b < s.heap.objs.size:=by
     simp only [dD,d8,or_false] at hb
     rcases hb with rfl | rfl | rfl | rfl | rfl
     · exact fz
     · exact dG h2
     · exact dG h3
     · obtain ⟨o,e,_⟩:=p1.obj i _ h4; exact dG e
     · obtain ⟨o,e,_⟩:=p2.obj i _ h5; exact dG e
    rw [aE (gF S')]
    exact (hf b hb).1
 done:=by
  intro X hP hw hK hc i pins s σ H E I hf st hg
  obtain ⟨xs,ys,RA,RB,he⟩:=hg
  obtain ⟨h1,h2,⟨a,c,h3⟩,h4,h5⟩:=st
  obtain ⟨P1,S1,q1,v1,b1,f1⟩:=p1.part X pins σ H s hP hw hK I xs RA
  obtain ⟨P2,S2,q2,v2,b2,f2⟩:=p2.part X pins σ H s hP hw hK I ys RB
  refine oP (I.ok.hd hc) D q1 q2 h1 h2 h3 (f1 i h4) (f2 i h5) he fun h' tk hk=>⟨rfl,?_⟩
  refine Gu (t':=tk) I (fun b u hb q=>?_) hf
  simp only [dD,d8,or_false,not_or] at hb
  exact hk b u hb.1 hb.2.2.1 hb.2.2.2.1 hb.2.2.2.2 q
 self:=fun _ _ _ _ _ st h=>by
  obtain ⟨h1,_⟩:=st
  exact wpAny_pyIter_zip h1 h
inductive ZK (K:PySem.W.Frag) (H:Hp):V→(Hp→List V→Prop)→Prop where
 | lst {a:Addr} {xs:List V}:eJ K H a xs→ZK K H (.ref a) (fun H xs=>eJ K H a xs)
 | tup {a:Addr} {xs:List V}:dF K H a xs→ZK K H (.ref a) (fun H xs=>dF K H a xs)
 | str (z:Str):ZK K H (.str z) (fun _ xs=>xs=wX z)
theorem IM {X:Cx} {pins:List (Addr×Obj)} {σ:St} {H:Hp} {s:Shared} {x:V} {u:Value} {sq:Hp→List V→Prop} (I:Inv X pins σ H s) (z:ZK X.K H x sq) (r:RelV x u) :
  ∃ (o:Obj) (c:Heap→Prop) (fp:List Addr) (it:Addr→Nat→Heap→Prop),iW u o c∧c s.heap∧(∀ h o,c h→c (h.push o))∧o.isFreed=false∧(∀ b∈fp,b < s.heap.objs.size) ∧
   ∀ i,s.heap.objs.size≤i→zY X.prog X.w X.K i (i :: fp) sq (it i)∧∀ h,h.get? i=some o→it i 0 h:=by
 cases z with
 | lst hq =>
   rename_i a xs
   cases r
   obtain ⟨aP,rv,p,hz⟩:=I.list hq
   have hl:a < s.heap.objs.size:=by obtain ⟨o,n,e,_⟩:=p; exact dG e
   refine ⟨_,_,[a],fun i k h=>h.IsListIter i a k,uX a aP.toArray,p.isList,fun h o q=>Heap.IsList.push q _,rfl,fun b hb=>by rw [um.mp hb]; exact hl,fun i hi=>⟨src_list i a (gF (nF hl hi)),fun h e=>⟨_,e,rfl,rfl⟩⟩⟩
 | tup hq =>
   rename_i a xs
   cases r
   obtain ⟨aP,rv,p,hz⟩:=I.tuple hq
   have hl:a < s.heap.objs.size:=by obtain ⟨o,e,_⟩:=p; exact dG e
   refine ⟨_,_,[a],fun i k h=>h.IsTupleIter i a k,sO a aP.toArray,p,fun h o q=>(let ⟨o',e,r⟩:=q; ⟨o',de _ e,r⟩),rfl,fun b hb=>by rw [um.mp hb]; exact hl,fun i hi=>⟨src_tuple i a (gF (nF hl hi)),fun h e=>⟨_,e,rfl,rfl⟩⟩⟩
 | str z =>
   obtain ⟨t,rfl⟩:=r
   refine ⟨_,_,[],fun i k h=>h.IsStrIter i (strIterType z) z t k,wU z t,trivial,fun _ _ _=>trivial,rfl,fun b hb=>?_,fun i hi=>⟨Gs i z t,fun h e=>⟨_,e,rfl,rfl⟩⟩⟩
   cases hb
theorem nn {a b:Nat} (h:a < b):a≠b:=gF h
theorem CO {n:Nat} {oO nP:List Addr} (h1:∀ b∈oO,b < n) (h2:∀ b∈nP,b < n):Apart (n+4) (n+2) (n+3) n (n+1) (n :: oO) ((n+1) :: nP):=by
 have k1:∀ b:Nat,n < b→b∉(n :: oO):=fun b hb m=>by
  rcases dD.mp m with q | q
  · exact Bu hb q
  · exact EM _ (Nat.lt_trans hb (h1 b q))
 have k2:∀ b:Nat,n+1 < b→b∉((n+1) :: nP):=fun b hb m=>by
  rcases dD.mp m with q | q
  · exact Bu hb q
  · exact EM _ (Nat.lt_trans (Nat.lt_trans (Jy n) hb) (h2 b q))
 have k3:n∉((n+1) :: nP):=fun m=>by
  rcases dD.mp m with q | q
  · exact gF (Jy n) q
  · exact EM _ (h2 n q)
 exact ⟨nn (by omega),nn (by omega),nn (by omega),nn (by omega),nn (by omega),(nn (by omega)).symm,(nn (by omega)).symm,(nn (by omega)).symm,(nn (by omega)).symm,nn (by omega),k1 _ (by omega),k2 _ (by omega),k1 _ (by omega),k2 _ (by omega),k1 _ (by omega),k3⟩
theorem Gv {n c:Nat} (h:c∈[n+4,n+2,n+3,n,n+1]):n≤c:=by
 simp only [dD,d8,or_false] at h
 omega
def T6 (K:PySem.W.Frag) (ta:TA):TI:=fun σ H R=>ta σ H fun vs H1=>∃ x y wY wZ,vs=[x,y]∧ZK K H1 x wY∧ZK K H1 y wZ∧R (T4 wY wZ) H1
section
variable {X:Cx} {Z:Zc}
theorem boot_zip:bootBuiltins "zip" = some (.type "zip"):=by decide +kernel
theorem Ln {elts:List Expr} {x1} {tp:Pos} {a b:Expr} {ta:TA} {p pos:Pos} (hg:Gl X "zip") (hm:X.mg "zip" = none) (ha:PA X [a,b] ta) (hs:starEach [a,b] X.env=[(false,eval a X.env),(false,eval b X.env)]) (uf:starEach [b] X.env=[(false,eval b X.env)]) :
  PI X (.Tuple elts x1 tp) (.Call (.Name "zip" p) [a,b] [] pos) (T6 X.K ta):=by
 intro pins s σ H R I h
 refine Call_ (jR I hg hm boot_zip (QO (bX (ha pos pins s σ H _ I h) fun us s1 ⟨vs,H1,I1,r1,q1⟩=>?_) (by rw [hs,uf]) (by rw [uf]; rfl)))
 obtain ⟨x,y,wY,wZ,e,k1,k2,q⟩:=q1
 subst e
 obtain ⟨u,w',rfl,ru,rw'⟩:=vals2 r1
 obtain ⟨o1,c1,oO,t1,i1,TZ,XZ,T1,Lo,z1⟩:=IM I1 k1 ru
 obtain ⟨o2,c2,nP,t2,i2,Bz,CL,T3,OZ,z2⟩:=IM I1 k2 rw'
 refine zX i1 i2 CL TZ Bz T1 T3 fun h' hz Gm Gn g1 g2 q9 hk=>?_
 have I2:Inv X pins σ H1 { s1 with heap:=h' }:=I1.kept (t':=s1.toks) hk
 refine wpAny_pyIter_zip hz ?_
 obtain ⟨S1,a1⟩:=z1 s1.heap.objs.size (dX _)
 obtain ⟨S2,a2⟩:=z2 (s1.heap.objs.size+1) (JD _)
 have D:Apart (s1.heap.objs.size+4) (s1.heap.objs.size+2) (s1.heap.objs.size+3) s1.heap.objs.size (s1.heap.objs.size+1) (s1.heap.objs.size :: oO) ((s1.heap.objs.size+1) :: nP):=by
  exact CO Lo OZ
 refine ⟨s1.heap.objs.size+4,_,_,_,H1,rfl,I2,CN D S1 S2,⟨hz,Gm,⟨_,_,Gn⟩,a1 _ g1,a2 _ g2⟩,fun c hc=>?_,q⟩
 have Wm:s1.heap.objs.size≤c:=Gv hc
 exact I1.qf Wm (I1.bC.fresh Wm)
def Lp:T→Option (List T)
 | .lst ts=>some ts
 | .tup ts=>some ts
 | .str z=>some (z.cps.toList.map fun c=>.str ⟨#[c]⟩)
 | _=>none
def oQ (xs ys:List T):List T:=List.zipWith (fun a b=>.tup [a,b]) xs ys
def T7 (fa fb:FE):FI:=fun ρ Q=>fa ρ fun x=>fb ρ fun y=>match Lp x,Lp y with
 | some xs,some ys=>Q (oQ xs ys)
 | _,_=>False
theorem IP {K:PySem.W.Frag} {H:Hp} {A:List Addr} {x:T} {v:V} {xs:List T} (h:At K H A x v) (e:Lp x=some xs):∃ sq,ZK K H v sq∧∀ H A,At K H A x v→∃ vs,sq H vs∧aG K H A xs vs:=by
 cases x with
 | lst ts =>
   cases e
   simp only [At] at h
   obtain ⟨a,vs,rfl,l,q⟩:=h
   refine ⟨_,.lst l.sq,fun H A h=>?_⟩
   simp only [At] at h
   obtain ⟨a',ki,e,l',q'⟩:=h
   cases e
   exact ⟨ki,l'.sq,q'⟩
 | tup ts =>
   cases e
   simp only [At] at h
   obtain ⟨a,vs,rfl,l,q⟩:=h
   refine ⟨_,.tup l,fun H A h=>?_⟩
   simp only [At] at h
   obtain ⟨a',ki,e,l',q'⟩:=h
   cases e
   exact ⟨ki,l',q'⟩
 | str z =>
   cases e
   simp only [At] at h
   subst h
   refine ⟨_,.str z,fun H A h=>⟨wX z,rfl,?_⟩⟩
   unfold wX
   generalize z.cps.toList=l
   induction l with
   | nil=>exact aG.nil
   | cons c l ih=>exact aG.cons cf ih
 | _=>cases e
theorem Lq {K:PySem.W.Frag} {x y:T} {v w:V} {xs ys:List T} {wY wZ:Hp→List V→Prop} (h1:∀ H A,At K H A x v→∃ vs,wY H vs∧aG K H A xs vs) (h2:∀ H A,At K H A y w→∃ vs,wZ H vs∧aG K H A ys vs) :
  Wk K (T4 wY wZ) [(x,v),(y,w)] (oQ xs ys):=fun H A hA h i=>by
 obtain ⟨vs,q1,l1⟩:=h1 H A (h _ ij)
 obtain ⟨ws,q2,l2⟩:=h2 H A (h _ (jC _ ij))
 have e1:=l1.length
 have e2:=l2.length
 have el:(oQ xs ys).length=min xs.length ys.length:=by unfold oQ; rw [List.length_zipWith]
 rw [el]
 refine ⟨fun hi=>⟨vs,ws,q1,q2,by omega,by omega⟩,fun hi=>⟨vs,ws,q1,q2,by omega⟩,fun t ht x H' y=>?_⟩
 obtain ⟨p,a,b,hp,rfl,ha,hb,rfl⟩:=y
 unfold oQ at ht
 rw [List.getElem?_zipWith] at ht
 cases ex:xs[i]? with
 | none=>rw [ex] at ht; cases ht
 | some tx =>
   cases ey:ys[i]? with
   | none=>rw [ex,ey] at ht; cases ht
   | some ty =>
     rw [ex,ey] at ht
     cases ht
     obtain ⟨v1,g1,g2⟩:=l1.get ex
     obtain ⟨v2,g3,g4⟩:=l2.get ey
     have z1:=ha vs q1
     have z2:=hb ws q2
     rw [g1] at z1
     rw [g3] at z2
     cases z1
     cases z2
     exact ⟨aM hp,br (dF.of aT) (aG.cons (g2.same (aM hp)) (aG.cons (g4.same (aM hp)) aG.nil))⟩
theorem Lr {elts:List Expr} {x1} {tp p pos:Pos} {a b:Expr} {fa fb:FE} (hg:Gl X "zip") (hm:X.mg "zip" = none) (ha:VE X Z a fa) (hb:VE X Z b fb)
  (hs:starEach [a,b] X.env=[(false,eval a X.env),(false,eval b X.env)]:=by rfl) (uf:starEach [b] X.env=[(false,eval b X.env)]:=by rfl) :
  VI X Z (.Tuple elts x1 tp) (.Call (.Name "zip" p) [a,b] [] pos) (T7 fa fb):=.mk fun tm =>
 PI.weak (Ln hg hm (bw (ha tm) (bw (hb tm) cX uf) (by rw [hs,uf])) hs uf) fun σ H R ⟨ρ,O,q,I,hf,k⟩=>⟨ρ,O,_,I,hf,fun x hx v H1 s1 a1=>⟨ρ,O,_,I.same s1,hx,fun y hy w H2 s2 a2=>by
  split at hy
  · rename_i xs ys e1 e2
    obtain ⟨wY,k1,w1⟩:=IP (a1.same s2) e1
    obtain ⟨wZ,k2,w2⟩:=IP a2 e2
    exact ⟨v,w,wY,wZ,rfl,k1,k2,k _ hy _ H2 _ (s1.trans s2) (fun p hp=>by
     rcases dD.mp hp with e | hp
     · rw [e]; exact a1.same s2
     · rw [um.mp hp]; exact a2) (Lq w1 w2)⟩
  · exact hy.elim⟩⟩
end
end VT
namespace HE
open PySem PySem.W PySem.Calls PyProof.Rows
noncomputable def nQ (tb:String→Option Builtin) (p:Program) (w:World) (n₀:Nat) (ann:Option Value):Nat→SharedT→Thread→Option SharedT
 | 0,_,_=>none
 | n+1,s,t=>match through t with
   | true=>some s
   | false=>match stepOk n₀ ann t with
     | false=>none
     | true=>match stepT (denote tb) p w s t with
       | some (s',t')=>nQ tb p w n₀ ann n s' t'
       | none=>none
theorem rm {tb:String→Option Builtin} {p:Program} {w:World} {n₀:Nat} {ann:Option Value}:∀ {n:Nat} {s s':SharedT} {t:Thread},nQ tb p w n₀ ann n s t=some s'→topRun tb p w n₀ ann n s.abs t=some s'.abs
 | 0,_,_,_,h=>by cases h
 | n+1,s,s',t,h=>by
   unfold nQ at h
   unfold topRun
   cases ht:through t with
   | true=>rw [ht] at h; cases h; rfl
   | false =>
     rw [ht] at h
     cases hk:stepOk n₀ ann t with
     | false=>rw [hk] at h; cases h
     | true =>
       rw [hk] at h
       cases hs:stepT (denote tb) p w s t with
       | none=>rw [hs] at h; cases h
       | some r=>obtain ⟨s₂,t₂⟩:=r; rw [hs] at h; rw [stepT_spec hs]; exact rm h
noncomputable def X0 (l:List Obj):BT:=(l.foldl (fun (p:BT×Nat) o=>(p.1.ins p.2 o,p.2+1)) (.nil,0)).1
noncomputable def dH (P:Params):BT:=X0 (boot_heap P).objs.toList
noncomputable def Wn (T:BT) (os:OsState):SharedT:=⟨T,11,{},Array.mk [],boot_drawn,boot_toks,os⟩
theorem boot_abs (P:Params):absHeap (dH P) 11 {}=boot_heap P:=by kernel_rfl
theorem zZ (P:Params):((boot_heap P).isNs mainGlobals,(boot_heap P).objs.size,(boot_heap P).nsMap mainGlobals "__annotations__")=(true,11,some (.ref 6)):=by kernel_rfl
noncomputable def Ls (p:Program) (T:BT) (w:World) (M:Nat) (os:OsState):Option SharedT:=nQ treeTable p w 11 (some (.ref 6)) M (Wn T os) (topStub p)
noncomputable def Kf (as:List Addr) (g:Addr→Option Obj):Frag:=as.filterMap fun a=>(g a).map fun o=>(a,o)
noncomputable def tg (T:BT) (n:Nat) (a:Addr):Option Obj:=match Nat.blt a n with
 | true=>alive ((T.get a).getD default)
 | false=>none
theorem O0 (T:BT) (n:Nat) (life:Life) (a:Addr):(absHeap T n life).get? a=tg T n a:=by
 unfold tg
 cases h:Nat.blt a n with
 | true =>
   have hn:a < n:=Nat.ble_eq.mp h
   cases g:T.get a with
   | some o=>rw [abs_get hn g]; rfl
   | none =>
     have e:=absHeap_at T n life a
     rw [if_pos hn,g] at e
     unfold Heap.get?
     rw [e]
     rfl
 | false =>
   have hn:¬ a < n:=fun z=>by
    have:Nat.blt a n=true:=Nat.ble_eq.mpr z
    rw [h] at this; cases this
   exact abs_get_none hn
abbrev Gw (q:Program) (lv:List (Str×WData)) (R:WRecords) (s:Shared):Bool:=xlAt q lv s && recOk R s
noncomputable def lookA (p q:Program) (loose:List Str) (lv:List (Str×WData)) (R:WRecords) (T:BT) (H0:Heap) (w:World) (M:Nat) (os:OsState) :=
 (Ls p T w M os).map fun s=>((staticsOk (importedModules p.main.body) H0 s.abs.heap && namesBound p s.abs.heap && gensDone s.abs && laidKept H0 s.abs.heap),
   (openSeen q loose (importedModules p.main.body) (Gw q lv R) true s.abs).1,(openSeen q loose (importedModules p.main.body) (Gw q lv R) true s.abs).2.1)
noncomputable def lookB (p q:Program) (loose:List Str) (lv:List (Str×WData)) (R:WRecords) (T:BT) (w:World) (M:Nat) (os:OsState) :=
 (Ls p T w M os).map fun s=>(openSeen q loose (importedModules p.main.body) (Gw q lv R) true s.abs).2.2
noncomputable def lookC {β:Type} (p:Program) (as:List Addr) (F:Frag→β) (T:BT) (w:World) (M:Nat) (os:OsState) :=
 (Ls p T w M os).map fun s=>F (Kf as (tg s.tree s.n))
noncomputable def sP (p:Program) (N:Nat) (w:World) (a:Addr):Option Obj:=(openEnds treeTable p w N).bind (·.heap.get? a)
theorem head {p q:Program} {loose:List Str} {lv:List (Str×WData)} {R:WRecords} {as:List Addr} {N M:Nat} {β:Type} {F:Frag→β} {v:World→β}
  (e:opening p=plainProg p.main.scope.names) (hN:Nat.ble 600 N=true) (f:∀ s,fenceModules? p s=some s) (le:Nat.ble M N=true)
  (ra:∀ (w:World) (os:OsState),lookA p q loose lv R (dH w.params) (boot_heap w.params) w M os=some (true,(openGood q loose).1,(openGood q loose).2.1))
  (rb:∀ (w:World) (os:OsState),lookB p q loose lv R (dH w.params) w M os=some (openGood q loose).2.2)
  (rc:∀ (w:World) (os:OsState),lookC p as F (dH w.params) w M os=some (v w)) :
  LeftO p q loose (Gw q lv R) (fun s=>as.map s.heap.get?) (fun w=>as.map (sP p N w)) N∧∀ w,F (Kf as (sP p N w))=v w:=by
 have key:∀ w,∃ s,openEnds treeTable p w N=some s∧openSeen q loose (importedModules p.main.body) (Gw q lv R) true s=openGood q loose∧F (Kf as s.heap.get?)=v w:=fun w=>by
  obtain ⟨⟨h,gs,d,k,os⟩,e1,e2⟩:=Np.mp (boot_open e hN f w)
  obtain ⟨rfl,rfl,rfl,rfl⟩:h=boot_heap w.params∧gs=Array.mk []∧d=boot_drawn∧k=boot_toks:=by simpa using e2
  obtain ⟨s,r1,r2⟩:=Np.mp (ra w os)
  obtain ⟨s',X2,X3⟩:=Np.mp (rb w os)
  obtain ⟨Kq,T8,X4⟩:=Np.mp (rc w os)
  obtain rfl:s=s':=Option.some.inj (r1.symm.trans X2)
  obtain rfl:s=Kq:=Option.some.inj (r1.symm.trans T8)
  have r3:=congrArg (fun x=>x.1) r2
  have r4:openSeen q loose (importedModules p.main.body) (Gw q lv R) true s.abs=openGood q loose:=Prod.ext (congrArg (fun x=>x.2.1) r2) (Prod.ext (congrArg (fun x=>x.2.2) r2) X3)
  have r5:F (Kf as s.abs.heap.get?)=v w:=by
   rw [show s.abs.heap.get?=tg s.tree s.n from funext fun a=>O0 _ _ _ a]
   exact X4
  have t1:=rm r1
  have ea:(Wn (dH w.params) os).abs=⟨boot_heap w.params,Array.mk [],boot_drawn,boot_toks,os⟩:=by
   show (⟨absHeap (dH w.params) 11 {},_,_,_,_⟩:Shared)=_
   rw [boot_abs]; rfl
  rw [ea] at t1
  have t2:=topRun_mono (N - M) _ _ _ _ t1
  rw [show M+(N - M)=N by have:=Nat.le_of_ble_eq_true le; omega] at t2
  have z:=zZ w.params
  have z1:=congrArg (fun x=>x.1) z
  have z2:=congrArg (fun x=>x.2.1) z
  have z3:=congrArg (fun x=>x.2.2) z
  refine ⟨s.abs,?_,r4,r5⟩
  unfold openEnds
  rw [e1]
  show topFrom treeTable p w N _=_
  unfold topFrom
  dsimp only at z1 z2 z3 ⊢
  rw [z1,z2,z3,t2]
  show (match staticsOk (importedModules p.main.body) (boot_heap w.params) s.abs.heap && namesBound p s.abs.heap && gensDone s.abs && laidKept (boot_heap w.params) s.abs.heap with | true=>_ | false=>_)=_
  have X5:(staticsOk (importedModules p.main.body) (boot_heap w.params) s.abs.heap && namesBound p s.abs.heap && gensDone s.abs && laidKept (boot_heap w.params) s.abs.heap)=true:=r3
  rw [X5]
 refine ⟨fun w=>?_,fun w=>?_⟩
 · obtain ⟨s,a,b,c⟩:=key w
   rw [a]
   have:sP p N w=s.heap.get?:=by funext x; unfold sP; rw [a]; rfl
   show some (openSeen q loose (importedModules p.main.body) (Gw q lv R) true s,as.map s.heap.get?)=some (openGood q loose,as.map (sP p N w))
   rw [b,this]
 · obtain ⟨s,a,b,c⟩:=key w
   have:sP p N w=s.heap.get?:=by funext x; unfold sP; rw [a]; rfl
   rw [this]
   exact c
theorem kf_in {as:List Addr} {g:Addr→Option Obj} {h:Heap} (e:as.map h.get?=as.map g):(Kf as g).In h:=by
 have key:∀ {as:List Addr},as.map h.get?=as.map g→∀ a o,(Kf as g).lookup a=some o→h.get? a=some o:=by
  intro as
  induction as with
  | nil=>intro _ a o z; cases z
  | cons x as ih =>
    intro e a o z
    rw [iF,iF] at e
    injection e with e1 e2
    unfold Kf at z
    rw [nD] at z
    cases hg:g x with
    | none=>rw [hg] at z; exact ih e2 a o z
    | some o' =>
      rw [hg] at z
      simp only [Option.map_some,Fb] at z
      split at z
      · rename_i q
        have:a=x:=by simpa using q
        subst this
        cases z
        rw [e1,hg]
      · exact ih e2 a o z
 exact fun a o z=>key e a o z
theorem CP {q:Program} {loose:List Str} {XP:(Str→Option Value)→Heap→Prop} {as:List Addr} {g:World→Addr→Option Obj} {r:RowW} {d:DefRec} {kwd:List (Str×Expr)} {run:Value→List Value→Sem Value}
  (h:WalkO q loose XP (fun w h=>(Kf as (g w)).In h) r d kwd run):WalkX q loose XP (fun s=>as.map s.heap.get?) (fun w=>as.map (g w)) r d kwd run :=
 fun w s₀ s₁ mg mb G y a o pm cd doc dV kV h1 h2 h3 h4 h5 h6 args vals rj L jT Of V2 Od V3=>h w s₀ s₁ mg mb G (fun b o' z=>Laid.keeps L _ _ (kf_in y b o' z)) a o pm cd doc dV kV h1 h2 h3 h4 h5 h6 args vals rj jT Of V2 Od V3
noncomputable def O3:Stmt→DefRec
 | .FunctionDef n ps b _ _ _ sc _ _ p=>⟨n,ps,b,sc,p⟩
 | _=>⟨Str.empty,default,[],default,default⟩
end HE
lay_quick HE.lookA HE.lookB HE.lookC
namespace VT
open PySem PySem.Spec PyProof.Rows L2
section
variable {X:Cx} {Z:Zc} {o e:Expr} {fo fe:FE} {apos bg:Pos}
def Gx (fo fe:FE):FP:=fun ρ Q=>fo ρ fun x=>match x with
 | .str z=>fe ρ fun y=>match y with
   | .str y=>Q (.vw (.bl (Txt.startswith z y)))
   | _=>False
 | _=>False
theorem z6 (ho:VR X Z o fo) (he:VR X Z e fe) (eM:attributeBase o "startswith" X.env (eval o X.env)=eval o X.env:=by rfl)
  (n9:((backTo bg (starEach [e] X.env)).all (fun x=>!x.1) && (backToKw bg (keywordEach [] X.env)).all (fun x=>x.1.isSome)
    && decide (([e]:List Expr).length+([]:List Keyword).length+(if ([]:List Keyword).isEmpty then 0 else 1) < 30))=true:=by rfl)
  (eO:(apos.endLine == bg.line)=true:=by rfl) (hs:starEach [e] X.env=(false,eval e X.env) :: starEach [] X.env:=by rfl) (eQ:(backTo bg (starEach [] X.env)).any (·.1)=false:=by rfl) :
  VP X Z (.Call (.Attribute o "startswith" apos) [e] [] bg) (Gx fo fe):=.mk fun tm =>
 PE.weak (uy PySem.F.plainAttrs_str PySem.F.slot_str_startswith PySem.F.type_str_startswith qj (ho tm) (bw (he tm) cX hs) eM n9 eO hs eQ) fun σ H Q ⟨ρ,O,q,I,hf,k⟩ =>
  ⟨ρ,O,_,I,hf,fun x hx v H1 s1 a1=>by
    split at hx
    · rename_i z
      have ev:=a1.str
      subst ev
      refine ⟨rfl,ρ,O,_,I.same s1,hx,fun y hy w H2 s2 a2=>?_⟩
      split at hy
      · have ew:=a2.str
        subst ew
        exact ⟨z,_,rfl,rfl,k _ hy _ H2 (s1.trans s2) ⟨(I.same s1).same s2,cM⟩⟩
      · exact hy.elim
    · exact hx.elim⟩
end
end VT
namespace VT
open PySem PySem.Spec PyProof.Rows
def Na {K:Type} [DecidableEq K] (l:List K) (v:K):List K:=if v∈l then l else l ++ [v]
def met {K:Type} [DecidableEq K] (val:Nat→K):Nat→List K
 | 0=>[]
 | i+1=>Na (met val i) (val i)
section
variable {K:Type} [DecidableEq K]
theorem yT (val:Nat→K):∀ i,(met val i).length≤i
 | 0=>dX _
 | i+1=>by
   have:=yT val i
   simp only [met,Na]
   split
   · omega
   · rw [qd,QU]; omega
theorem Gy {l:List K} {v k:K}:k∈Na l v↔k∈l∨k=v:=by
 unfold Na
 split
 · rename_i h
   exact ⟨.inl,fun q=>q.elim id fun e=>e▸h⟩
 · rw [iw,um]
end
abbrev fG (led:Bool):Obj:={ cls:=.type "set",dict:=none,data:=.set #[] 0 (.fresh 0 0 led) }
theorem sub_list_set:isSubtype (.type "list") (.type "set")=pure false:=by rw [isSubtype_type]; kernel_rfl
theorem sub_list_frozenset:isSubtype (.type "list") (.type "frozenset")=pure false:=by rw [isSubtype_type]; kernel_rfl
theorem sub_tuple_set:isSubtype (.type "tuple") (.type "set")=pure false:=by rw [isSubtype_type]; kernel_rfl
theorem sub_tuple_frozenset:isSubtype (.type "tuple") (.type "frozenset")=pure false:=by rw [isSubtype_type]; kernel_rfl
section
variable {prog:Program} {w:World} {A:Around} {R:Result→Shared→Prop} {I:Addr} {fp wr:List Addr} {G:Array GenState→Array GenState→Prop} {n:Nat} {P:Nat→Value→Prop} {St:Nat→Shared→Prop}
variable {K:Type} [DecidableEq K] {knd:PySem.KeyKind prog w K}
theorem rn (W:WalksS prog w A.in1 I fp wr G n P St) (S:Addr) (Nb:S∉fp)
  (val:Nat→K) (T9:∀ i v,P i v→knd.is (val i) v=true∧v.scannable=true) (hb:n+1 < scanBound) :
  ∀ (k i:Nat) (s:Shared),n - i=k→i≤n→St i s →
   s.heap.SetOf knd S (fun k'=>decide (k'∈met val i)) (met val i).length →
   (∀ s',Moved (S :: wr) G s s'→s'.heap.SetOf knd S (fun k'=>decide (k'∈met val n)) (met val n).length→R (.ok (.ret .none)) s') →
   codeAny (model prog w) A (.builtin "set.update.loop" ⟨[.ref S,.ref I],[]⟩) R s:=by
 have Wo:S∉wr:=fun h=>Nb (W.sub _ h)
 have CM:∀ b∈wr,b∈S :: wr:=fun b hb=>jC _ hb
 intro k
 induction k with
 | zero =>
   intro i s hk hi BQ hS hR
   have T_:i=n:=by omega
   subst T_
   refine codeAny_builtin PyProof.Rows.F.entry_set_update_loop ?_
   rw [Around.under_plainId RW _]
   show wpAny _ A.in1 (pyNext (.ref I) >>= _) _ _ s
   refine wpAny_bind (W.done s _ _ BQ fun s' hm=>?_)
   show wpAny _ A.in1 (ret Value.none) _ _ s'
   exact wpAny_pure (hR s' (hm.mono CM) (by
    obtain ⟨o,es,ep,t,ho,rest⟩:=hS
    exact ⟨o,es,ep,t,hm.heap S _ Wo ho,rest⟩))
 | succ k ih =>
   intro i s hk hi BQ hS hR
   have fz:i < n:=by omega
   refine codeAny_builtin PyProof.Rows.F.entry_set_update_loop ?_
   rw [Around.under_plainId RW _]
   show wpAny _ A.in1 (pyNext (.ref I) >>= _) _ _ s
   refine wpAny_bind (W.item i s _ _ fz BQ fun v s' hP Ua hm=>?_)
   obtain ⟨EV,Ld⟩:=T9 i v hP
   have CQ:s'.heap.SetOf knd S (fun k'=>decide (k'∈met val i)) (met val i).length:=by
    obtain ⟨o,es,ep,tb,ho,rest⟩:=hS
    exact ⟨o,es,ep,tb,hm.heap S _ Wo ho,rest⟩
   show wpAny _ A.in1 (holding [v] (setAdd S v) >>= _) _ _ s'
   refine wpAny_bind (wpAny_holding ?_)
   unfold setAdd
   refine wpAny_holding ?_
   refine wpAny_bind (knd.pyHash (k:=val i) EV ?_)
   have O5:(met val i).length+1 < scanBound:=by have:=yT val i; omega
   refine wpAny_setAddHashed_of (knd:=knd) (s:={ s' with toks:=s'.toks+1 }) EV Ld CQ O5 fun h' Wq X6=>?_
   have X7:h'.SetOf knd S (fun k'=>decide (k'∈met val (i+1))) (met val (i+1)).length :=
    SetOf_congr X6 (fun k'=>by
     simp only [met,Gy,Bool.decide_or]) (by
     simp only [met,Na,decide_eq_true_eq]
     split <;> simp)
   refine wpAny_pure ⟨plainId_quiet RW _,ih (i+1) _ (by omega) fz (W.frame _ s' _ _ Ua (JD _) fun b hb o e=>?_) X7 fun Kq Ub Uc=>?_⟩
   · rw [Wq.2 b (fun h:b=S=>Nb (by rw [← h]; exact hb))]; exact e
   · refine hR Kq (Moved.trans W.gtrans ((hm.mono CM).then_heap (JD _) fun b o hb e=>?_) Ub) Uc
     rw [Wq.2 b (fun h:b=S=>hb (by rw [h]; exact ij))]; exact e
end
section
variable {prog:Program} {w:World} {A:Around} {E:Value→Shared→Prop} {s:Shared} {K:Type} [DecidableEq K] {knd:PySem.KeyKind prog w K}
theorem oR {l:Addr} {items:Array Value} {val:Nat→K} {Q:Value→Shared→Prop}
  (hh:A.handled=none) (hl:s.heap.IsList l items) (hi:∀ (i:Nat) (v:Value),items[i]?=some v→knd.is (val i) v=true∧v.scannable=true) (hb:items.size+1 < scanBound)
  (h:∀ (h':Heap) (tk:Nat),h'.SetOf knd s.heap.objs.size (fun k'=>decide (k'∈met val items.size)) (met val items.size).length →
    (∀ b o,b < s.heap.objs.size→s.heap.get? b=some o→h'.get? b=some o)→s.heap.objs.size < h'.objs.size→Q (.ref s.heap.objs.size) { s with heap:=h',toks:=tk }) :
  wpAny (model prog w) A (call (.type "set") [.ref l]) Q E s:=by
 obtain ⟨c,tl,Ud⟩:=v8.mro
 have O6:=v8.made
 have CM:=v8.sub
 refine wpAny_call (codeAny_of_tree ?_)
 show wpAny _ _ (callAny (.type "set") _) _ _ _
 refine wpAny_pure ⟨Q5 _ (by decide +kernel),codeAny_builtin F.entry_type_call ?_⟩
 rw [Around.under_plain (weight_type_call_type "set" [.ref l] []) rfl]
 have h1:=v8.notType
 have h2:=v8.canCreate
 have X8:=PySem.F.typeCall_set_1 (.ref l)
 repeat (any_goals (first | assumption | wp_step))
 refine codeAny_mono (code_set_new_1 (.ref l) (E:=E) (Q₁:=fun obj s₁=>∃ led:Bool,obj = .ref s.heap.objs.size∧s₁={ s with heap:=s.heap.push (fG led) }) fun led=>⟨led,rfl,rfl⟩) fun r s₁ hr=>?_
 cases r with
 | error e=>exact hr
 | ok fl =>
   cases fl with
   | ret obj =>
     obtain ⟨led,rfl,rfl⟩:=hr
     have hS:(s.heap.push (fG led)).get? s.heap.objs.size=some (fG led):=nE _ rfl
     have hT:Shared.TypeIs { s with heap:=s.heap.push (fG led) } (.ref s.heap.objs.size) "set":=⟨_,hS,rfl⟩
     have X9:=v8.init.lookup
     have S_:=v8.init.bind (.ref s.heap.objs.size)
     repeat (any_goals (first | assumption | wp_step))
     refine codeAny_mono (codeAny_call_builtin (R:=wants (fun r s₂=>r = .none∧∃ h' tk,s₂={ s with heap:=h',toks:=tk } ∧
       h'.SetOf knd s.heap.objs.size (fun k'=>decide (k'∈met val items.size)) (met val items.size).length ∧
       (∀ b o,b < s.heap.objs.size→s.heap.get? b=some o→h'.get? b=some o)) E) v8.init.plain PySem.F.entry_set_init (check_set_init_1 hT ?_)) fun r₂ s₂ Lu=>?_
     · obtain ⟨ol,Gk,B',nl,EW⟩:=hl
       obtain ⟨Ue,CS,O7,w6⟩:=ol
       simp only at B' EW
       subst B'; subst EW
       have Lv:(s.heap.push (fG led)).get? l=some { cls:=.type "list",dict:=CS,data:=.seq items nl,slots:=w6 }:=de _ Gk
       have Ug:=sub_list_set
       have Uh:=sub_list_frozenset
       have qb:(Value.type "list" == Value.type "dict")=false:=by decide
       have Gz:(s.heap.push (fG led)).IsList l items:=⟨_,Lv,rfl,nl,rfl⟩
       unfold Builtin.«set.__init__» noKeywords Builtin.Frozenset.updateFrom
       generalize Ui:pyIter=PI
       wp_walk
       subst Ui
       refine wpAny_pyIter_list Gz ?_
       refine wpAny_bind (wpAny_runValue ?_)
       have O8:l < s.heap.objs.size:=dG Gk
       have Uj:A.in1.in1.in1.handled=none:=by simp [hh]
       have Lw:l≠(s.heap.push (fG led)).objs.size:=by
        rw [wc]; exact gF (Nu O8)
       have Nb:s.heap.objs.size∉[(s.heap.push (fG led)).objs.size,l]:=by
        rw [wc]; simp only [dD,um,d8,or_false,not_or]
        exact ⟨gF (Jy _),Bu O8⟩
       refine rn ((Walks.list Uj _ l Lw items).toS) s.heap.objs.size
        Nb val hi hb (items.size - 0) 0 _ (by omega) (km _)
        ⟨⟨_,nE _ rfl,rfl,rfl⟩,(Gz.push _)⟩ ?hS0 ?hR
       case hS0 =>
        have Lx:((s.heap.push (fG led)).push { cls:=.type "list_iterator",data:=.fields #[.ref l,.int 0 0] }).get? s.heap.objs.size
          = some (fG led):=de _ hS
        exact SetOf_congr ((setObjOf_fresh (knd:=knd) led).setOf Lx (by unfold scanBound; omega)) (fun _=>by simp [met]) rfl
       case hR =>
        intro s' hm CQ
        obtain ⟨h',g',d',CT,NX⟩:=s'
        have eg:g'=s.gens:=hm.gens
        have ed:d'=s.drawn:=hm.drawn
        have eo:NX=s.os:=hm.os
        subst eg; subst ed; subst eo
        show wpAny _ _ _ _ _ _
        refine wpAny_pure ?_
        show wpAny _ _ (ret Value.none) _ _ _
        refine wpAny_pure ⟨rfl,h',CT,rfl,CQ,fun b o hb e=>?_⟩
        have Lo:b≠s.heap.objs.size:=gF hb
        have OZ:b≠(s.heap.push (fG led)).objs.size:=by
         rw [wc]; exact gF (Nu hb)
        exact hm.heap b o (by simp only [dD,um,d8,or_false,not_or]; exact ⟨Lo,OZ⟩) (de _ (de _ e))
     · cases r₂ with
       | error e=>exact Lu
       | ok Uk =>
         cases Uk with
         | ret r =>
           obtain ⟨rfl,h',tk,rfl,CQ,O9⟩:=Lu
           repeat (any_goals (first | assumption | wp_step))
           refine h _ _ CQ O9 ?_
           obtain ⟨o,_,_,_,ho,_⟩:=CQ
           exact dG ho
         | _=>exact Lu.elim
   | _=>exact hr.elim
theorem nh {l:Addr} {items:Array Value} {val:Nat→K} {Q:Value→Shared→Prop}
  (hh:A.handled=none) (hl:s.heap.IsTuple l items) (hi:∀ (i:Nat) (v:Value),items[i]?=some v→knd.is (val i) v=true∧v.scannable=true) (hb:items.size+1 < scanBound)
  (h:∀ (h':Heap) (tk:Nat),h'.SetOf knd s.heap.objs.size (fun k'=>decide (k'∈met val items.size)) (met val items.size).length →
    (∀ b o,b < s.heap.objs.size→s.heap.get? b=some o→h'.get? b=some o)→s.heap.objs.size < h'.objs.size→Q (.ref s.heap.objs.size) { s with heap:=h',toks:=tk }) :
  wpAny (model prog w) A (call (.type "set") [.ref l]) Q E s:=by
 obtain ⟨c,tl,Ud⟩:=v8.mro
 have O6:=v8.made
 have CM:=v8.sub
 refine wpAny_call (codeAny_of_tree ?_)
 show wpAny _ _ (callAny (.type "set") _) _ _ _
 refine wpAny_pure ⟨Q5 _ (by decide +kernel),codeAny_builtin F.entry_type_call ?_⟩
 rw [Around.under_plain (weight_type_call_type "set" [.ref l] []) rfl]
 have h1:=v8.notType
 have h2:=v8.canCreate
 have X8:=PySem.F.typeCall_set_1 (.ref l)
 repeat (any_goals (first | assumption | wp_step))
 refine codeAny_mono (code_set_new_1 (.ref l) (E:=E) (Q₁:=fun obj s₁=>∃ led:Bool,obj = .ref s.heap.objs.size∧s₁={ s with heap:=s.heap.push (fG led) }) fun led=>⟨led,rfl,rfl⟩) fun r s₁ hr=>?_
 cases r with
 | error e=>exact hr
 | ok fl =>
   cases fl with
   | ret obj =>
     obtain ⟨led,rfl,rfl⟩:=hr
     have hS:(s.heap.push (fG led)).get? s.heap.objs.size=some (fG led):=nE _ rfl
     have hT:Shared.TypeIs { s with heap:=s.heap.push (fG led) } (.ref s.heap.objs.size) "set":=⟨_,hS,rfl⟩
     have X9:=v8.init.lookup
     have S_:=v8.init.bind (.ref s.heap.objs.size)
     repeat (any_goals (first | assumption | wp_step))
     refine codeAny_mono (codeAny_call_builtin (R:=wants (fun r s₂=>r = .none∧∃ h' tk,s₂={ s with heap:=h',toks:=tk } ∧
       h'.SetOf knd s.heap.objs.size (fun k'=>decide (k'∈met val items.size)) (met val items.size).length ∧
       (∀ b o,b < s.heap.objs.size→s.heap.get? b=some o→h'.get? b=some o)) E) v8.init.plain PySem.F.entry_set_init (check_set_init_1 hT ?_)) fun r₂ s₂ Lu=>?_
     · obtain ⟨ol,Gk,B',nl,EW⟩:=hl
       obtain ⟨Ue,CS,O7,w6⟩:=ol
       simp only at B' EW
       subst B'; subst EW
       have Lv:(s.heap.push (fG led)).get? l=some { cls:=.type "tuple",dict:=CS,data:=.seq items nl,slots:=w6 }:=de _ Gk
       have Ug:=sub_tuple_set
       have Uh:=sub_tuple_frozenset
       have qb:(Value.type "tuple" == Value.type "dict")=false:=by decide
       have Gz:(s.heap.push (fG led)).IsTuple l items:=⟨_,Lv,rfl,nl,rfl⟩
       unfold Builtin.«set.__init__» noKeywords Builtin.Frozenset.updateFrom
       generalize Ui:pyIter=PI
       wp_walk
       subst Ui
       refine wpAny_pyIter_tuple Gz ?_
       refine wpAny_bind (wpAny_runValue ?_)
       have O8:l < s.heap.objs.size:=dG Gk
       have Uj:A.in1.in1.in1.handled=none:=by simp [hh]
       have Lw:l≠(s.heap.push (fG led)).objs.size:=by
        rw [wc]; exact gF (Nu O8)
       have Nb:s.heap.objs.size∉[(s.heap.push (fG led)).objs.size,l]:=by
        rw [wc]; simp only [dD,um,d8,or_false,not_or]
        exact ⟨gF (Jy _),Bu O8⟩
       refine rn ((Walks.tuple Uj _ l Lw items).toS) s.heap.objs.size
        Nb val hi hb (items.size - 0) 0 _ (by omega) (km _)
        ⟨⟨_,nE _ rfl,rfl,rfl⟩,(Gz.push _)⟩ ?hS0 ?hR
       case hS0 =>
        have Lx:((s.heap.push (fG led)).push { cls:=.type "tuple_iterator",data:=.fields #[.ref l,.int 0 0] }).get? s.heap.objs.size
          = some (fG led):=de _ hS
        exact SetOf_congr ((setObjOf_fresh (knd:=knd) led).setOf Lx (by unfold scanBound; omega)) (fun _=>by simp [met]) rfl
       case hR =>
        intro s' hm CQ
        obtain ⟨h',g',d',CT,NX⟩:=s'
        have eg:g'=s.gens:=hm.gens
        have ed:d'=s.drawn:=hm.drawn
        have eo:NX=s.os:=hm.os
        subst eg; subst ed; subst eo
        show wpAny _ _ _ _ _ _
        refine wpAny_pure ?_
        show wpAny _ _ (ret Value.none) _ _ _
        refine wpAny_pure ⟨rfl,h',CT,rfl,CQ,fun b o hb e=>?_⟩
        have Lo:b≠s.heap.objs.size:=gF hb
        have OZ:b≠(s.heap.push (fG led)).objs.size:=by
         rw [wc]; exact gF (Nu hb)
        exact hm.heap b o (by simp only [dD,um,d8,or_false,not_or]; exact ⟨Lo,OZ⟩) (de _ (de _ e))
     · cases r₂ with
       | error e=>exact Lu
       | ok Uk =>
         cases Uk with
         | ret r =>
           obtain ⟨rfl,h',tk,rfl,CQ,O9⟩:=Lu
           repeat (any_goals (first | assumption | wp_step))
           refine h _ _ CQ O9 ?_
           obtain ⟨o,_,_,_,ho,_⟩:=CQ
           exact dG ho
         | _=>exact Lu.elim
   | _=>exact hr.elim
end
end VT
namespace VT
open PySem PySem.Spec PyProof.Rows L2
def Ly (P:Program) (w:World) (a:Addr) (f:Str→Bool) (n:Nat):HO:=.ext fun h=>h.SetOf (PySem.strKind P w) a f n
def once (ys:List Str):List Str:=met (fun i=>ys.getD i Str.empty) ys.length
section
variable {X:Cx}
theorem rq {ys:List Str} {aP:List Value} (r:Vals (ys.map V.str) aP) (i:Nat) (v:Value) (h:aP.toArray[i]?=some v):(PySem.strKind X.prog X.w).is (ys.getD i Str.empty) v=true∧v.scannable=true:=by
 have h':aP[i]?=some v:=by simpa using h
 have hl:=r.length
 rw [bZ] at hl
 have hi:i < ys.length:=by have:=(fH.mp h').1; omega
 obtain ⟨u,hu,ru⟩:=r.get (show (ys.map V.str)[i]?=some (.str ys[i]) by rw [ly,kg hi]; rfl)
 rw [h'] at hu
 cases hu
 obtain ⟨t,rfl⟩:=ru
 refine ⟨?_,rfl⟩
 rw [List.getD_eq_getElem?_getD,kg hi]
 show Value.isStrOf ys[i] (.str ys[i] t)=true
 simp [Value.isStrOf]
theorem qB (hc:X.calm=true):c_ X (.type "set") (fun xs H Q=>∃ (p:Addr) (ys:List Str),xs=[.ref p]∧(eJ X.K H p (ys.map V.str)∨dF X.K H p (ys.map V.str))∧ys.length < 4000 ∧
  ∀ a,H a=none→Q (.ref a) (upd H a (Ly X.prog X.w a (fun k=>decide (k∈once ys)) (once ys).length))):=by
 intro pins s σ H xs us Q I r h
 obtain ⟨p,ys,rfl,hq,hl,q⟩:=h
 obtain ⟨u,rfl,ru⟩:=vals1 r
 cases ru
 have fin:∀ (n:Nat),n=ys.length→∀ (h':Heap) (tk:Nat),h'.SetOf (PySem.strKind X.prog X.w) s.heap.objs.size (fun k'=>decide (k'∈met (fun i=>ys.getD i Str.empty) n)) (met (fun i=>ys.getD i Str.empty) n).length →
   (∀ b o,b < s.heap.objs.size→s.heap.get? b=some o→h'.get? b=some o)→EP X pins σ Q (.ref s.heap.objs.size) { s with heap:=h',toks:=tk }:=fun n hn h' tk hS hk=>by
  subst hn
  refine ⟨.ref s.heap.objs.size,_,I.laid (a:=s.heap.objs.size) (t':=tk) (fun b o e=>hk b o (dG e) e) (dX _) ?_,rfl,q _ I.fresh⟩
  refine ⟨hS,?_,fun h1 h2 z k=>?_⟩
  · obtain ⟨o,_,_,_,ho,_⟩:=hS
    exact ⟨o,ho⟩
  · obtain ⟨o,es,ep,t,ho,rest⟩:=z
    exact ⟨o,es,ep,t,k o ho,rest⟩
 rcases hq with hq | hq
 · obtain ⟨aP,rv,pl,hz⟩:=I.list hq
   have e:=rv.length
   rw [bZ] at e
   exact oR (knd:=PySem.strKind X.prog X.w) (val:=fun i=>ys.getD i Str.empty) (I.ok.hd hc) pl.isList (rq rv) (by unfold scanBound; simp; omega) fun h' tk hS hk _=>fin _ (by simp [e]) h' tk hS hk
 · obtain ⟨aP,rv,pl,hz⟩:=I.tuple hq
   have e:=rv.length
   rw [bZ] at e
   exact nh (knd:=PySem.strKind X.prog X.w) (val:=fun i=>ys.getD i Str.empty) (I.ok.hd hc) (show s.heap.IsTuple p aP.toArray from pl) (rq rv) (by unfold scanBound; simp; omega) fun h' tk hS hk _=>fin _ (by simp [e]) h' tk hS hk
theorem qC:c_ X (.builtin "len") (fun xs H Q=>∃ a f n,xs=[.ref a]∧H a=some (Ly X.prog X.w a f n)∧Q (.int (n:Int)) H):=by
 intro pins s σ H xs us Q I r h
 obtain ⟨a,f,n,rfl,ha,q⟩:=h
 obtain ⟨u,rfl,ru⟩:=vals1 r
 cases ru
 obtain ⟨⟨o,es,ep,t,ho,hex,hd,_,_,hb,hf,hn⟩,_⟩:=(show bP X.prog X.w H s.heap a (Ly X.prog X.w a f n) from I.bC a _ ha)
 refine PySem.call_len_set ho hex hd hf (by unfold scanBound at hb; omega) ?_
 rw [hn]
 exact ⟨.int n,H,I.tok _,⟨_,rfl⟩,q⟩
theorem boot_set:bootBuiltins "set" = some (.type "set"):=by decide +kernel
end
section
variable {X:Cx} {Z:Zc} {a:Expr} {fa:FE} {p1 p2 GA z7:Pos}
def GB (fa:FE):FP:=fun ρ Q=>fa ρ fun x=>∃ ys:List Str,(x = .lst (ys.map .str)∨x = .tup (ys.map .str))∧ys.length < 4000∧Q (.vw (.int ((once ys).length:Int)))
theorem sQ {K:PySem.W.Frag} {H:Hp} {A:List Addr}:∀ {ys:List Str} {vs:List V},aG K H A (ys.map T.str) vs→vs=ys.map V.str
 | [],vs,h=>by simpa only [JC,aG] using h
 | y :: ys,vs,h=>by
   simp only [iF,aG] at h
   obtain ⟨v,r,rfl,h1,h2⟩:=h
   simp only [At] at h1
   rw [h1,sQ h2]
   rfl
theorem z8 (hc:X.calm=true) (X_:Gl X "len") (X':X.mg "len" = none) (Ya:Gl X "set") (Ul:X.mg "set" = none) (ha:VR X Z a fa)
  (he:starEach [.Call (.Name "set" p2) [a] [] z7] X.env=(false,eval (.Call (.Name "set" p2) [a] [] z7) X.env) :: starEach [] X.env:=by rfl) (fE:(backTo GA (starEach [] X.env)).any (·.1)=false:=by rfl)
  (Wr:starEach [a] X.env=(false,eval a X.env) :: starEach [] X.env:=by rfl) (Um:(backTo z7 (starEach [] X.env)).any (·.1)=false:=by rfl) :
  VP X Z (.Call (.Name "len" p1) [.Call (.Name "set" p2) [a] [] z7] [] GA) (GB fa):=.mk fun tm =>
 PE.weak (kx qC X_ X' gE (bw (q8 (qB hc) Ya Ul boot_set (bw (ha tm) cX Wr) (by decide) (by decide) Wr Um) cX he) (by decide) (by decide) he fE) fun σ H Q ⟨ρ,O,q,I,hf,k⟩ =>
  ⟨ρ,O,_,I,hf,fun x hx v H1 s1 a1=>by
    obtain ⟨ys,hy,hl,hq⟩:=hx
    have src:∃ p,v = .ref p∧(eJ X.K H1 p (ys.map V.str)∨dF X.K H1 p (ys.map V.str)):=by
     rcases hy with rfl | rfl
     · obtain ⟨p,vs,rfl,h1,h2⟩:=a1.lst
       rw [sQ h2] at h1
       exact ⟨p,rfl,.inl h1⟩
     · obtain ⟨p,vs,rfl,h1,h2⟩:=a1.tup
       rw [sQ h2] at h1
       exact ⟨p,rfl,.inr h1⟩
    obtain ⟨p,rfl,hs⟩:=src
    exact ⟨p,ys,rfl,hs,hl,fun b hb=>⟨b,_,_,rfl,aT,k _ hq _ _ (s1.trans (aM hb)) ⟨(I.same s1).same (aM hb),bE⟩⟩⟩⟩
end
end VT
namespace L2
open PySem PySem.Spec PyProof.Rows
section
variable (P:Program) (w:World)
end
section
variable {P:Program} {w:World} {H H':Hp} {h h':Heap} {a:Addr} {o:HO}
end
section
variable {P:Program} {w:World} {H:Hp} {h h':Heap} {x e:Addr} {o':HO}
end
section
variable {fs Ny ex Sa:List Addr} {H H1 H2:Hp} {h h1 h2 h':Heap} {a x e:Addr} {o:HO}
end
section
variable {X:Cx} {pins:List (Addr×Obj)} {σ:List (Option V)} {H H':Hp} {s:Shared} {h':Heap}
end
section
variable {X:Cx}
variable {a b:Expr} {ta tb:TE} {pos:Pos}
variable {tA NC:TT} {rest:List Expr}
end
section
variable {X:Cx} {pins:List (Addr×Obj)} {σ:St} {H:Hp} {s:Shared} {a:Addr} {xs ys:List V}
end
section
variable {X:Cx} {pins:List (Addr×Obj)} {σ:St} {H:Hp} {s:Shared} {E:Value→Shared→Prop}
end
section
variable {X:Cx} {st:Stmt} {rest:List Stmt} {t u:TS} {e:Expr} {te:TE} {pos:Pos}
end
section
variable {X:Cx} {pos:Pos}
end
section
variable {X:Cx} {pos:Pos}
end
section
variable {X:Cx} {tg:Expr}
end
section
variable {X:Cx} {a b c:Expr} {ta tb tc:TE} {pos:Pos}
end
section
variable {X:Cx} {a b c:Expr} {ta tb tc:TE} {pos:Pos}
end
section
variable {prog:Program} {w:World} {A:Around} {E:Value→Shared→Prop} {s:Shared} {K:PySem.W.Frag} {x dx C f:Addr} {mA:Str→Option Value} {name:Str} {v:Value}
end
section
variable {P:Program} {w:World} {H H':Hp} {h h':Heap} {a C dx:Addr} {fs Ny:List (Str×V)}
end
section
variable {X:Cx} {pins:List (Addr×Obj)} {σ:St} {H:Hp} {s:Shared} {a C dx:Addr} {fs:List (Str×V)} {f:Str} {v:V} {A:Around} {E:Value→Shared→Prop}
end
section
variable {X:Cx} {o e value:Expr} {f:Str} {pos pos' qg:Pos} {ta tv:TE}
end
section
variable {X:Cx} {pins:List (Addr×Obj)} {σ:St} {H:Hp} {s:Shared} {A:Around} {E:Value→Shared→Prop} {Q:Value→Shared→Prop} {c:Value} {b:Bool}
end
section
variable {X:Cx} {e:Expr} {es:List Expr} {te:TE} {t:TA} {pos:Pos}
end
section
variable {X:Cx} {pins:List (Addr×Obj)} {σ:St} {H:Hp} {s s':Shared}
end
section
variable {X:Cx} {CX:wA} {k:Nat} {f C:Addr} {fd:FuncData} {ps:List Str} {sp:Sp} {Fv:List V} {ds:List Value} {E:XK} {x m:Str} {p pos apos:Pos} {e o:Expr} {es:List Expr} {ta:TE} {t:TA}
end
section
variable {X:Cx} {CX:wA} {k:Nat} {f C:Addr} {fd:FuncData} {ps ks:List Str} {sp:Sp} {E:XK} {x m:Str} {p pos apos SJ:Pos} {e o:Expr} {es:List Expr} {W4:List Keyword} {te ta:TE} {t tk:TA} {nm:Option Str}
variable {g:List Value→List Value→List Value} {gV:List V→List V→List V}
end
section
variable {X:Cx} {x:Str} {p pos:Pos} {e:Expr} {es:List Expr} {t:TA} {id T:String} {r:List V→Hp→VK→Prop}
end
section
variable {κ:Type} [DecidableEq κ]
def iC (aZ:List (κ×V)) (k:κ):Option V:=(aZ.find? fun kv=>decide (kv.1=k)).map (·.2)
def putK (aZ:List (κ×V)) (k:κ) (v:V):List (κ×V) :=
 if (aZ.any fun kv=>decide (kv.1=k))=true then aZ.map (fun kv=>if kv.1=k then (kv.1,v) else kv) else aZ ++ [(k,v)]
def IQ (aZ:List (κ×V)) (k:κ):List (κ×V):=aZ.filter fun kv=>decide (kv.1≠k)
theorem kK {p:κ×V} {r:List (κ×V)} {k:κ} (e:p.1=k):iC (p :: r) k=some p.2:=by simp [iC,MZ,e]
theorem kL {p:κ×V} {r:List (κ×V)} {k:κ} (e:¬ p.1=k):iC (p :: r) k=iC r k:=by simp [iC,MZ,e]
theorem oU (k:κ):∀ aZ:List (κ×V),(aZ.any fun kv=>decide (kv.1=k))=(iC aZ k).isSome
 | []=>rfl
 | p :: r=>by
   rw [M0]
   by_cases e:p.1=k
   · simp only [kK e,decide_eq_true e,Bool.true_or,Option.isSome_some]
   · rw [kL e,decide_eq_false e,Bool.false_or]; exact oU k r
theorem uY (aZ:List (κ×V)) (k:κ) (v:V):(putK aZ k v).length≤aZ.length+1:=by
 unfold putK
 split
 · rw [bZ]; omega
 · rw [qd,Jz,List.length_nil]; omega
theorem CU {aZ:List (κ×V)} {k:κ} (v:V) (h:iC aZ k=none):putK aZ k v=aZ ++ [(k,v)]:=by
 unfold putK
 rw [oU,h]
 exact if_neg (by decide)
theorem jQ.z9 {o:Option V} {u:Option Value} (r:jQ o u):o.isSome=u.isSome:=by
 cases o with
 | none=>cases u with
   | none=>rfl
   | some _=>exact (show False from r).elim
 | some _=>cases u with
   | none=>exact (show False from r).elim
   | some _=>rfl
theorem jQ.getD {o:Option V} {u:Option Value} {d:V} {d':Value} (r:jQ o u) (rd:RelV d d'):RelV (o.getD d) (u.getD d'):=by
 cases o with
 | none=>cases u with
   | none=>exact rd
   | some _=>exact (show False from r).elim
 | some _=>cases u with
   | none=>exact (show False from r).elim
   | some _=>exact r
theorem KV.val {aZ:List (κ×V)} {vs:List (κ×Value)} (r:KV aZ vs) (k:κ):jQ (iC aZ k) (valueAt vs k):=by
 unfold KV at r
 induction r with
 | nil=>exact True.intro
 | @cons p q ps qs h t ih =>
   obtain ⟨h1,h2⟩:=h
   by_cases e:p.1=k
   · have e':q.1=k:=h1.symm.trans e
     have b:valueAt (q :: qs) k=some q.2:=by simp [valueAt,MZ,e']
     rw [kK e,b]; exact h2
   · have e':¬ q.1=k:=fun z=>e (h1.trans z)
     have b:valueAt (q :: qs) k=valueAt qs k:=by simp [valueAt,MZ,e']
     rw [kL e,b]; exact ih
theorem KV.any {aZ:List (κ×V)} {vs:List (κ×Value)} (r:KV aZ vs) (k:κ):(aZ.any fun kv=>decide (kv.1=k))=vs.any fun kv=>decide (kv.1=k):=by
 unfold KV at r
 induction r with
 | nil=>rfl
 | cons h t ih=>rw [M0,M0,ih,h.1]
theorem KV.Lz {aZ:List (κ×V)} {vs:List (κ×Value)} (r:KV aZ vs) (k:κ) {y:V} {u:Value} (ry:RelV y u) :
  KV (aZ.map fun kv=>if kv.1=k then (kv.1,y) else kv) (vs.map fun kv=>if kv.1=k then (kv.1,u) else kv):=by
 unfold KV at r ⊢
 induction r with
 | nil=>exact .nil
 | @cons p q ps qs h t ih =>
   rw [iF,iF]
   refine .cons ?_ ih
   obtain ⟨h1,h2⟩:=h
   by_cases e:p.1=k
   · rw [if_pos e,if_pos (h1.symm.trans e)]; exact ⟨h1,ry⟩
   · rw [if_neg e,if_neg (fun z=>e (h1.trans z))]; exact ⟨h1,h2⟩
theorem KV.put {aZ:List (κ×V)} {vs:List (κ×Value)} (r:KV aZ vs) (k:κ) {y:V} {u:Value} (ry:RelV y u):KV (putK aZ k y) (stored vs k u):=by
 unfold putK stored
 rw [r.any k]
 by_cases e:(vs.any fun kv=>decide (kv.1=k))=true
 · rw [if_pos e,if_pos e]; exact r.Lz k ry
 · rw [if_neg e,if_neg e]; exact Paired.snoc r ⟨rfl,ry⟩
theorem KV.drop {aZ:List (κ×V)} {vs:List (κ×Value)} (r:KV aZ vs) (k:κ):KV (IQ aZ k) (without vs k):=by
 unfold KV at r ⊢
 unfold IQ without
 induction r with
 | nil=>exact .nil
 | @cons p q ps qs h t ih =>
   obtain ⟨h1,h2⟩:=h
   rw [List.filter_cons,List.filter_cons]
   by_cases e:p.1=k
   · have a:¬ decide (p.1≠k)=true:=by simp [e]
     have b:¬ decide (q.1≠k)=true:=by simp [h1.symm.trans e]
     rw [if_neg a,if_neg b]; exact ih
   · have e':¬ q.1=k:=fun z=>e (h1.trans z)
     have a:decide (p.1≠k)=true:=by simp [e]
     have b:decide (q.1≠k)=true:=by simp [e']
     rw [if_pos a,if_pos b]; exact .cons ⟨h1,h2⟩ ih
theorem KV.keys {aZ:List (κ×V)} {vs:List (κ×Value)} (r:KV aZ vs):aZ.map (·.1)=vs.map (·.1):=by
 unfold KV at r
 induction r with
 | nil=>rfl
 | cons h t ih=>rw [iF,iF,ih,h.1]
theorem KV.length {aZ:List (κ×V)} {vs:List (κ×Value)} (r:KV aZ vs):aZ.length=vs.length:=Paired.length r
end
theorem uZ {P:Program} {w:World} {k:Key} {u:Value} (r:RelV (kV k) u):(bB P w).is k u=true:=by
 cases k with
 | inl i=>obtain ⟨t,e⟩:=(show ∃ t,u=Value.int i t from r); subst e; exact uq P w i t
 | inr x=>obtain ⟨t,e⟩:=(show ∃ t,u=Value.str x t from r); subst e; exact ur P w x t
theorem rz {P:Program} {w:World}:∀ {ks:List Key} {us:List Value},Vals (ks.map kV) us→ItemsAre (bB P w) ks us
 | [],_,r=>by rw [JC] at r; cases r; exact .nil
 | k :: ks,_,r=>by
   rw [iF] at r
   cases r with
   | cons h t=>exact .cons (uZ h) (rz t)
abbrev KT (H:Hp):List (List Key×V)→List (List Key×Addr×Value)→Prop:=Paired fun p q=>p.1=q.1∧H q.2.1=some (.tup (p.1.map kV))∧RelV p.2 q.2.2
theorem KT.val {H:Hp} {aZ:List (List Key×V)} {xs:List (List Key×Addr×Value)} (r:KT H aZ xs) (k:List Key):jQ (iC aZ k) ((atKey xs k).map (·.2)):=by
 induction r with
 | nil=>exact True.intro
 | @cons p q ps qs h t ih =>
   obtain ⟨h1,_,h2⟩:=h
   by_cases e:p.1=k
   · have e':q.1=k:=h1.symm.trans e
     have b:atKey (q :: qs) k=some q.2:=by simp [atKey,MZ,e']
     rw [kK e,b]; exact h2
   · have e':¬ q.1=k:=fun z=>e (h1.trans z)
     have b:atKey (q :: qs) k=atKey qs k:=by simp [atKey,MZ,e']
     rw [kL e,b]; exact ih
theorem KT.Lz {H:Hp} {aZ:List (List Key×V)} {xs:List (List Key×Addr×Value)} (r:KT H aZ xs) (k:List Key) {y:V} {u:Value} (ry:RelV y u) :
  KT H (aZ.map fun kv=>if kv.1=k then (kv.1,y) else kv) (xs.map (putAt k u)):=by
 induction r with
 | nil=>exact .nil
 | @cons p q ps qs h t ih =>
   rw [iF,iF]
   refine .cons ?_ ih
   obtain ⟨h1,h2,h3⟩:=h
   unfold putAt
   by_cases e:p.1=k
   · rw [if_pos e,if_pos (h1.symm.trans e)]; exact ⟨h1,h2,ry⟩
   · rw [if_neg e,if_neg (fun z=>e (h1.trans z))]; exact ⟨h1,h2,h3⟩
theorem KT.put {H:Hp} {aZ:List (List Key×V)} {xs:List (List Key×Addr×Value)} (r:KT H aZ xs) (k:List Key) {b:Addr} {y:V} {u:Value} (hb:H b=some (.tup (k.map kV))) (ry:RelV y u) :
  KT H (putK aZ k y) (storedH xs k b u):=by
 have e:(aZ.any fun kv=>decide (kv.1=k))=(atKey xs k).isSome:=by
  rw [oU,(r.val k).z9,Option.isSome_map]
 unfold putK storedH
 rw [e]
 by_cases q:(atKey xs k).isSome=true
 · rw [if_pos q,if_pos q]; exact r.Lz k ry
 · rw [if_neg q,if_neg q]; exact Paired.snoc r ⟨rfl,hb,ry⟩
theorem KT.keeps {H H':Hp} {aZ:List (List Key×V)} {xs:List (List Key×Addr×Value)} (r:KT H aZ xs) (ht:∀ b ys,H b=some (.tup ys)→H' b=some (.tup ys)):KT H' aZ xs :=
 Paired.mY r fun _ _ z=>⟨z.1,ht _ _ z.2.1,z.2.2⟩
section
variable {P:Program} {w:World} {H:Hp} {h:Heap} {a:Addr}
theorem IS {u:HO} (ok:jD P w H h) (e:Rd H a u):bP P w H h a u:=e.ok ok
theorem u3 {aZ:List (Key×V)} (ok:jD P w H h) (e:Rd H a (.dK aZ)):aZ.length≤sizeLine∧(a == sysModules)=false∧∃ vs,KV aZ vs∧h.DictOf (bB P w) a vs :=
 show bP P w H h a (.dK aZ) from IS ok e
theorem O_ {aZ:List (Key×V)} (ok:jD P w H h) (e:H a=some (.dK aZ)):aZ.length≤sizeLine∧(a == sysModules)=false∧∃ vs,KV aZ vs∧h.DictOf (bB P w) a vs:=u3 ok (.inl e)
theorem w_ {ks:List Key} (ok:jD P w H h) (e:H a=some (.tup (ks.map kV))):(tupleKind (bB P w)).is h ks a:=by
 obtain ⟨_,aP,r,o,h1,h2,n,h3⟩:=(show bP P w H h a (.tup (ks.map kV)) from ok a _ e)
 exact ⟨o,aP.toArray,n,h1,h2,h3,by simpa using rz r⟩
theorem yU {aZ:List (List Key×V)} (ok:jD P w H h) (e:Rd H a (.dT aZ)):aZ.length≤sizeLine∧(a == sysModules)=false ∧
  ∃ xs,KT H aZ xs∧h.DictOfH (tupleKind (bB P w)) a xs:=by
 obtain ⟨z,y,xs,r,o,es,ep,h1,h2,h3,h4,h5⟩:=(show bP P w H h a (.dT aZ) from IS ok e)
 refine ⟨z,y,xs,r,o,es,ep,h1,h2,h3,h4,fun x hx=>?_,h5⟩
 have all:∀ {l:List (List Key×V)} {m:List (List Key×Addr×Value)},KT H l m→∀ x∈m,(tupleKind (bB P w)).is h x.1 x.2.1:=by
  intro l m q
  induction q with
  | nil=>intro x hx; exact nomatch hx
  | @cons p q ps qs hq t ih =>
    intro x hx
    rcases dD.mp hx with e | hx
    · subst e
      exact w_ ok (by rw [← hq.1]; exact hq.2.1)
    · exact ih x hx
 exact all r x hx
end
def oV (H:Hp) (a:Addr) (y:V) (r:Option V):Prop :=
 (∃ aZ k,Rd H a (.dK aZ)∧y=kV k∧r=iC aZ k)∨∃ aZ k b,Rd H a (.dT aZ)∧y = .ref b∧H b=some (.tup (k.map kV))∧r=iC aZ k
def GC (H:Hp) (a:Addr) (y v:V) (H':Hp):Prop :=
 (∃ aZ k,H a=some (.dK aZ)∧y=kV k∧aZ.length < sizeLine∧H'=upd H a (.dK (putK aZ k v))) ∨
 ∃ aZ k b,H a=some (.dT aZ)∧y = .ref b∧H b=some (.tup (k.map kV))∧aZ.length < sizeLine∧H'=upd H a (.dT (putK aZ k v))
theorem oV.k {H:Hp} {a:Addr} {aZ:List (Key×V)} {k:Key} (e:H a=some (.dK aZ)):oV H a (kV k) (iC aZ k):=.inl ⟨aZ,k,.inl e,rfl,rfl⟩
theorem oV.t {H:Hp} {a b:Addr} {aZ:List (List Key×V)} {k:List Key} (e:H a=some (.dT aZ)) (eb:H b=some (.tup (k.map kV))):oV H a (.ref b) (iC aZ k):=.inr ⟨aZ,k,b,.inl e,rfl,eb,rfl⟩
theorem GC.k {H:Hp} {a:Addr} {aZ:List (Key×V)} {k:Key} {v:V} (e:H a=some (.dK aZ)) (hl:aZ.length < sizeLine):GC H a (kV k) v (upd H a (.dK (putK aZ k v))):=.inl ⟨aZ,k,e,rfl,hl,rfl⟩
theorem GC.t {H:Hp} {a b:Addr} {aZ:List (List Key×V)} {k:List Key} {v:V} (e:H a=some (.dT aZ)) (eb:H b=some (.tup (k.map kV))) (hl:aZ.length < sizeLine) :
 GC H a (.ref b) v (upd H a (.dT (putK aZ k v))):=.inr ⟨aZ,k,b,e,rfl,eb,hl,rfl⟩
section
variable {X:Cx} {pins:List (Addr×Obj)} {σ:St} {H:Hp} {s:Shared} {a:Addr} {y v:V} {u r:Value} {o:Option V} {A:Around} {E:Value→Shared→Prop}
theorem Inv.big (I:Inv X pins σ H s):sysModules < s.heap.objs.size:=by
 have h:mainGlobals < s.heap.objs.size:=(I.mod.glob.keeps I.bk).lt
 exact Nat.lt_trans (by decide) h
theorem z_ {Q:Value→Shared→Prop} (hu:A.units+1 < cLine) (I:Inv X pins σ H s) (g:oV H a y (some v)) (ry:RelV y u) (h:∀ w' s',Inv X pins σ H s'→RelV v w'→Q w' s') :
  wpAny (model X.prog X.w) A (getItem (.ref a) u) Q E s:=by
 rcases g with ⟨aZ,k,e,ey,l⟩ | ⟨aZ,k,b,e,ey,eb,l⟩
 · subst ey
   obtain ⟨z,hd,vs,rel,dd⟩:=u3 I.bC e
   obtain ⟨w',hw,rw'⟩:=jQ.some_of (v:=v) (o:=valueAt vs k) (by rw [l]; exact rel.val k)
   exact wpAny_getItem_of (uZ ry) dd.mapOf hw (h w' _ (I.tok _) rw')
 · subst ey
   cases (show u=Value.ref b from ry)
   obtain ⟨z,hd,xs,rel,dd⟩:=yU I.bC e
   obtain ⟨w',hw,rw'⟩:=jQ.some_of (v:=v) (o:=(atKey xs k).map (·.2)) (by rw [l]; exact rel.val k)
   obtain ⟨p,hp,CL⟩:=Np.mp hw
   refine wpAny_getItem_heap (tupleKind_room_in1 hu) (w_ I.bC eb) dd hp ?_
   rw [CL]
   exact h w' _ (I.tok _) rw'
theorem GD {h':Heap} {t':Nat} {ob:HO} (I:Inv X pins σ H s) (mu:Nw (H a)) (hs:Heap.SameBut a s.heap h') (he:∃ q,h'.get? a=some q) (new:bP X.prog X.w (upd H a ob) h' a ob) :
  Inv X pins σ (upd H a ob) { s with heap:=h',toks:=t' } :=
 I.write (x:=a) (e:=a) mu (.inl rfl) (fun b q hb z=>(hs.2 b hb).trans z) he new
theorem LA {P:Program} {w:World} {H':Hp} {h':Heap} {aZ:List (Key×V)} {vs:List (Key×Value)} (z:aZ.length≤sizeLine) (hd:(a == sysModules)=false) (rel:KV aZ vs) (dd:h'.DictOf (bB P w) a vs) :
 bP P w H' h' a (.dK aZ):=⟨z,hd,vs,rel,dd⟩
end
section
variable {X:Cx} {pins:List (Addr×Obj)} {σ:St} {H:Hp} {s:Shared} {a:Addr} {aZ:List (Key×V)} {k:Key} {u:Value} {A:Around} {E:Value→Shared→Prop}
end
def LB (i:Expr):Prop:=∀ ov iv,subscripted i false ov iv=operate [ov,iv] (getItem ov iv)
theorem GF {prog:Program} {w:World} {A:Around} {E:Value→Shared→Prop} {s:Shared} {env:Env} {value slice:Expr} {pos:Pos} {T id:String} {Q:Value→Shared→Prop}
  (hl:typeLookup (.type T) "__getitem__" = pure (some (.builtin id))) (hs:LB slice)
  (h:wpAny (model prog w) A (eval value env) (fun o s₁=>wpAny (model prog w) A (eval slice env) (fun i s₂=>s₂.TypeIs o T∧wpAny (model prog w) A (getItem o i) Q E s₂) E s₁) E s) :
  wpAny (model prog w) A (eval (.Subscript value slice pos) env) Q E s:=by
 refine Subscript_ (wpAny_mono h (fun o s₁ h₁=>wpAny_mono h₁ (fun i s₂ h₂=>?_) fun _ _ x=>x) fun _ _ x=>x)
 obtain ⟨hT,h₂⟩:=h₂
 unfold subscriptTail
 refine wpAny_bind ?_
 rw [getitemInPython_of_ne hT.not_modules]
 refine wpAny_bind (wpAny_specialOf hT hl ?_)
 have fin:wpAny (model prog w) A (subscripted slice false o i) (fun r s₃=>wpAny (model prog w) A (letTemporaryGo value o r >>= fun _=>pure r) Q E s₃) E s₂:=by
  rw [hs o i]
  exact wpAny_operating (wpAny_mono h₂ (fun r s₃ h₃=>wpAny_bind (wpAny_letTemporaryGo (wpAny_pure h₃))) fun _ _ x=>x)
 first
  | exact wpAny_pure (wpAny_bind fin)
  | exact wpAny_bind (wpAny_pure (wpAny_bind fin))
  | exact wpAny_bind fin
theorem u4 {X:Cx} {pins:List (Addr×Obj)} {σ:St} {H:Hp} {s:Shared} {a:Addr} {y:V} {o:Option V} (I:Inv X pins σ H s) (g:oV H a y o):s.TypeIs (.ref a) "dict":=by
 rcases g with ⟨aZ,k,e,_,_⟩ | ⟨aZ,k,b,e,_,_,_⟩
 · obtain ⟨_,_,vs,_,dd⟩:=u3 I.bC e
   exact dd.typeIs
 · obtain ⟨_,_,xs,_,dd⟩:=yU I.bC e
   exact dd.typeIs
def Pa (td ty:TE):TE:=fun σ H Q=>td σ H fun x H1=>ty σ H1 fun y H2=>∃ a v,x = .ref a∧oV H2 a y (some v)∧Q v H2
section
variable {X:Cx} {o i e value:Expr} {pos pos' qg:Pos} {td ty tv:TE}
theorem GG (hu:X.A.units+1 < cLine) (ho:PE X o td) (hi:PE X i ty) (hs:LB i):PE X (.Subscript o i pos) (Pa td ty):=by
 intro pins s σ H Q I h
 refine GF PySem.F.slot_dict_getitem.lookup hs (bX (ho pins s σ H _ I h) fun u s1 ⟨x,H1,I1,rx,q1⟩=>bX (hi pins s1 σ H1 _ I1 q1) fun iv s2 ⟨y,H2,I2,ry,a,v,ex,g,q2⟩=>?_)
 subst ex
 obtain rfl:u=Value.ref a:=rx
 exact ⟨u4 I2 g,z_ hu I2 g ry fun w' s3 I3 rw'=>⟨v,H2,I3,rw',q2⟩⟩
end
theorem CV {P:Program} {w:World} {H:Hp} (h:Heap) (hb:sysModules < h.objs.size):bP P w H (h.push { cls:=.type "dict",data:=.dict #[] }) h.objs.size (.dK []) :=
 ⟨km _,beq_eq_false_iff_ne.mpr (Ne.symm (gF hb)),[],.nil,Heap.DictOf.new h⟩
def LC:TE:=fun _ H Q=>∀ p,H p=none→Q (.ref p) (upd H p (.dK []))
section
variable {X:Cx} {pos:Pos}
theorem CW:PE X (.Dict [] [] pos) LC:=fun pins s σ H Q I h =>
 wpAny_Dict_empty ⟨.ref s.heap.objs.size,_,I.laid (a:=s.heap.objs.size) (o:=.dK []) (t':=s.toks) (fun _ _ q=>de _ q) (dX _) (CV s.heap I.big),rfl,h _ (I.bC.fresh (dX _))⟩
end
abbrev VV:List (V×V)→List (Value×Value)→Prop:=Paired fun p q=>RelV p.1 q.1∧RelV p.2 q.2
structure M1 (X:Cx) (o:Expr) (m:Str) (apos:Pos) (e:Expr) (bg:Pos):Prop where
 base:attributeBase o m X.env (eval o X.env)=eval o X.env
 Uo:((backTo bg (starEach [e] X.env)).all (fun x=>!x.1) && (backToKw bg (keywordEach [] X.env)).all (fun x=>x.1.isSome)
  && decide (([e]:List Expr).length+([]:List Keyword).length+(if ([]:List Keyword).isEmpty then 0 else 1) < 30))=true
 line:(apos.endLine == bg.line)=true
 trees:backTo bg (starEach [e] X.env)=[(false,eval e X.env)]
structure M2 (X:Cx) (o:Expr) (m:Str) (apos:Pos) (e f:Expr) (bg:Pos):Prop where
 base:attributeBase o m X.env (eval o X.env)=eval o X.env
 Uo:((backTo bg (starEach [e,f] X.env)).all (fun x=>!x.1) && (backToKw bg (keywordEach [] X.env)).all (fun x=>x.1.isSome)
  && decide (([e,f]:List Expr).length+([]:List Keyword).length+(if ([]:List Keyword).isEmpty then 0 else 1) < 30))=true
 line:(apos.endLine == bg.line)=true
 trees:backTo bg (starEach [e,f] X.env)=[(false,eval e X.env),(false,eval f X.env)]
def Ws (H:Hp) (a:Addr):Prop:=(∃ aZ,Rd H a (.dK aZ))∨∃ aZ,Rd H a (.dT aZ)
theorem LD {X:Cx} {pins:List (Addr×Obj)} {σ:St} {H:Hp} {s:Shared} {a:Addr} (I:Inv X pins σ H s) (d:Ws H a) :
  s.TypeIs (.ref a) "dict"∧(∀ b,Value.ref a = .ref b→∃ ob,s.heap.get? b=some ob∧ob.dict=none)∧(a == sysModules)=false:=by
 rcases d with ⟨aZ,e⟩ | ⟨aZ,e⟩
 · obtain ⟨_,hd,vs,_,dd⟩:=u3 I.bC e
   refine ⟨dd.typeIs,fun b q=>?_,hd⟩
   cases q
   obtain ⟨ob,_,_,h1,h2,_⟩:=dd
   exact ⟨ob,h1,h2.2.1⟩
 · obtain ⟨_,hd,xs,_,dd⟩:=yU I.bC e
   refine ⟨dd.typeIs,fun b q=>?_,hd⟩
   cases q
   obtain ⟨ob,_,_,h1,h2,_⟩:=dd
   exact ⟨ob,h1,h2.2.1⟩
section
variable {X:Cx} {pins:List (Addr×Obj)} {σ:St} {H:Hp} {s:Shared} {a:Addr} {y d:V} {u r:Value} {o:Option V} {A:Around} {E:Value→Shared→Prop}
theorem LF {Q:Value→Shared→Prop} (hu:A.units+1 < cLine) (I:Inv X pins σ H s) (g:oV H a y o) (ry:RelV y u) (h:∀ w' s',Inv X pins σ H s'→RelV (o.getD .bu) w'→Q w' s') :
  wpAny (model X.prog X.w) A (call (.builtin "dict.get") [.ref a,u]) Q E s:=by
 rcases g with ⟨aZ,k,e,ey,l⟩ | ⟨aZ,k,b,e,ey,eb,l⟩
 · subst ey
   obtain ⟨z,hd,vs,rel,dd⟩:=u3 I.bC e
   refine call_meetsIn Nr dd.typeIs R9 (R6 _ _) (meets_dict_get (bB X.prog X.w) a (uZ ry) hd) ⟨_,dd.mapOf,h _ _ (I.tok _) ?_⟩
   rw [l]
   exact (rel.val k).getD rfl
 · subst ey
   cases (show u=Value.ref b from ry)
   obtain ⟨z,hd,xs,rel,dd⟩:=yU I.bC e
   refine call_meetsIn Nr dd.typeIs R9 (R6 _ _) (meetsH_dict_get (tupleKind (bB X.prog X.w)) a b hd) ⟨tupleKind_room_in1 hu,k,xs,w_ I.bC eb,dd,h _ _ (I.tok _) ?_⟩
   rw [l]
   exact (rel.val k).getD rfl
end
def LG (td ty:TE):TE:=fun σ H Q=>td σ H fun x H1=>∃ a,x = .ref a∧Ws H1 a∧ty σ H1 fun y H2=>∃ o,oV H2 a y o∧Q (o.getD .bu) H2
section
variable {X:Cx} {o e f:Expr} {apos bg:Pos} {td ty tx:TE}
theorem CY (hu:X.A.units+1 < cLine) (ho:PE X o td) (he:PE X e ty) (m:M1 X o "get" apos e bg):PE X (.Call (.Attribute o "get" apos) [e] [] bg) (LG td ty):=by
 intro pins s σ H Q I h
 refine wpAny_Call_method m.base m.Uo m.line R7 Nr PySem.F.type_dict_get (bX (ho pins s σ H _ I h) fun u s1 ⟨x,H1,I1,rx,a,ex,d,q1⟩=>?_)
 subst ex
 obtain rfl:u=Value.ref a:=rx
 obtain ⟨t1,t2,_⟩:=LD I1 d
 refine ⟨t1,t2,?_⟩
 rw [m.trees]
 refine QT rfl (Calls.evalArgs_plain (Calls.spliced_cons (bX (he pins s1 σ H1 _ I1 q1) fun iv s2 ⟨y,H2,I2,ry,ov,g,q2⟩=>Calls.spliced_nil ?_)))
 exact LF hu I2 g ry fun w' s3 I3 rw'=>⟨_,H2,I3,rw',q2⟩
end
section
variable {X:Cx} {pins:List (Addr×Obj)} {σ:St} {H:Hp} {s:Shared} {a:Addr} {aZ:List (Key×V)} {A:Around} {E:Value→Shared→Prop}
end
section
variable {X:Cx} {pins:List (Addr×Obj)} {σ:St} {H:Hp} {s:Shared} {a:Addr} {y:V} {u:Value} {A:Around} {E:Value→Shared→Prop}
end
end L2
namespace Rh
open PySem PySem.W PySem.Calls PyProof.Rows
section
variable {prog:Program} {w:World} {A:Around} {E:Value→Shared→Prop} {s:Shared} {K:Frag}
end
end Rh
namespace L2
open PySem PySem.Spec PyProof.Rows
section
variable {P:Program} {w:World} {K:PySem.W.Frag} {mg:Str→Option Value} {base:Heap}
end
section
variable {X:Cx}
end
section
variable {κ:Type} [DecidableEq κ]
end
end L2
namespace VT
open PySem PySem.Spec PyProof.Rows L2
def Aa:T→Option Key
 | .int i=>some (.inl i)
 | .str x=>some (.inr x)
 | _=>none
theorem sR {K:PySem.W.Frag} {H:Hp} {A:List Addr} {t:T} {v:V} {k:Key} (h:gB K H A t v) (e:Aa t=some k):v=kV k:=by
 cases t with
 | int i=>cases e; exact h.int
 | str x=>cases e; exact h.str
 | _=>cases e
def fR {α:Type}:List Key→List α→Key→Option α
 | k :: ks,t :: ts,x=>if k=x then some t else fR ks ts x
 | _,_,_=>none
theorem eV:∀ (ks:List Key) (vs:List V) (x:Key),iC (ks.zip vs) x=fR ks vs x
 | [],vs,x=>rfl
 | k :: ks,[],x=>rfl
 | k :: ks,v :: vs,x=>by
   simp only [fR,List.zip_cons_cons]
   by_cases e:k=x
   · rw [if_pos e,kK (p:=(k,v)) e]
   · rw [if_neg e,kL (p:=(k,v)) e]; exact eV ks vs x
theorem u5 {α:Type} (ts:List α) (x:Key):fR [] ts x=none:=by cases ts <;> rfl
theorem gR {K:PySem.W.Frag} {H:Hp} {A:List Addr}:∀ {ks:List Key} {ts:List T} {vs:List V} {x:Key},aG K H A ts vs→(∀ t,fR ks ts x=some t→∃ v,fR ks vs x=some v∧At K H A t v)∧(fR ks ts x=none→fR ks vs x=none)
 | [],ts,vs,x,h=>by
   rw [u5,u5]
   refine ⟨fun t e=>?_,fun _=>rfl⟩
   cases e
 | k :: ks,[],vs,x,h=>by
   simp only [aG] at h
   subst h
   exact ⟨fun t e=>(by cases e),fun _=>rfl⟩
 | k :: ks,t :: ts,vs,x,h=>by
   simp only [aG] at h
   obtain ⟨v,r,rfl,h1,h2⟩:=h
   simp only [fR]
   by_cases e:k=x
   · rw [if_pos e,if_pos e]
     exact ⟨fun t e=>by cases e; exact ⟨v,rfl,h1⟩,fun q=>by cases q⟩
   · rw [if_neg e,if_neg e]
     exact gR h2
section
variable {X:Cx} {Z:Zc} {e a b:Expr} {fa fb fc:FE} {pos:Pos}
def Pb:FP:=fun _ Q=>Q (.fr (.dk [] []))
theorem GH:VP X Z (.Dict [] [] pos) Pb:=.mk fun tm=>PE.weak CW fun σ H Q ⟨ρ,O,q,I,hf,k⟩ p hp =>
 k _ hf _ _ (aM hp) (I.newD (ks:=[]) (ts:=[]) (vs:=[]) hp rfl aG.nil)
def Pc (fa fb:FE):FP:=fun ρ Q=>fa ρ fun x=>fb ρ fun y=>match x,Aa y with
 | .dk ks ts,some k=>∃ t,fR ks ts k=some t∧Q (.vw t)
 | _,_=>False
theorem CZ (hu:X.A.units+1 < cLine) (ha:VR X Z a fa) (hb:VR X Z b fb) (hs:LB b:=by intro _ _; rfl):VP X Z (.Subscript a b pos) (Pc fa fb):=.mk fun tm=>PE.weak (GG hu (ha tm) (hb tm) hs) fun σ H Q ⟨ρ,O,q,I,hf,k⟩ =>
 ⟨ρ,O,_,I,hf,fun x hx v H1 s1 a1=>⟨ρ,O,_,I.same s1,hx,fun y hy w H2 s2 a2=>by
   split at hy
   · rename_i ks ts kk e
     obtain ⟨t,e1,hq⟩:=hy
     obtain ⟨l,vs,rfl,hl,hd,hv⟩:=(a1.same s2).dk
     obtain ⟨u,e2,e3⟩:=(gR hv).1 t e1
     rw [sR a2 e]
     exact ⟨l,u,rfl,by rw [← e2,← eV]; exact oV.k hd,k _ hq _ H2 (s1.trans s2) ⟨(I.same s1).same s2,e3⟩⟩
   · exact hy.elim⟩⟩
def Up (fa fb:FE):FP:=fun ρ Q=>fa ρ fun x=>match x with
 | .dk ks ts=>fb ρ fun y=>match Aa y with
   | some k=>Q (.vw ((fR ks ts k).getD .bu))
   | none=>False
 | _=>False
theorem yV {K:PySem.W.Frag} {H:Hp} {A:List Addr} {ks:List Key} {ts:List T} {vs:List V} {k:Key} {z:T} {w:V} (h:aG K H A ts vs) (hz:At K H A z w):At K H A ((fR ks ts k).getD z) ((fR ks vs k).getD w):=by
 cases e:fR ks ts k with
 | none=>rw [(gR h).2 e]; exact hz
 | some t=>obtain ⟨v,e1,e2⟩:=(gR h).1 t e; rw [e1]; exact e2
theorem C0 {apos bg:Pos} (hu:X.A.units+1 < cLine) (ha:VR X Z a fa) (hb:VR X Z b fb) (m:M1 X a "get" apos b bg):VP X Z (.Call (.Attribute a "get" apos) [b] [] bg) (Up fa fb):=.mk fun tm=>PE.weak (CY hu (ha tm) (hb tm) m) fun σ H Q ⟨ρ,O,q,I,hf,k⟩ =>
 ⟨ρ,O,_,I,hf,fun x hx v H1 s1 a1=>by
   split at hx
   · rename_i ks ts
     obtain ⟨l,vs,rfl,hl,hd,hv⟩:=a1.dk
     refine ⟨l,rfl,.inl ⟨_,.inl hd⟩,ρ,O,_,I.same s1,hx,fun y hy w H2 s2 a2=>?_⟩
     split at hy
     · rename_i kk e
       rw [sR a2 e]
       refine ⟨_,oV.k (s2 _ _ hd),?_⟩
       rw [eV]
       exact k _ hy _ H2 (s1.trans s2) ⟨(I.same s1).same s2,yV (hv.same s2) og⟩
     · exact hy.elim
   · exact hx.elim⟩
end
def IT (w:World) (K:PySem.W.Frag) (e:DictEntry) (p:Str×T):Prop:=e.hash=PyData.keyHash w.params p.1∧(∃ t,e.key = .str p.1 t)∧∃ v,RelV v e.val∧∀ H A,At K H A p.2 v
def yW (w:World) (K:PySem.W.Frag) (a:Addr) (l:List (Str×T)):Prop:=∃ es ep,K.lookup a=some ⟨.type "dict",none,.dict es ep,#[]⟩∧(a == sysModules)=false∧Paired (IT w K) es.toList l∧(l.map (·.1)).Nodup
theorem ents {P:Program} {w:World} {K:PySem.W.Frag}:∀ {es:List DictEntry} {l:List (Str×T)},Paired (IT w K) es l →
  ∃ (vs:List V) (us:List (Key×Value)),(∀ H A,aG K H A (l.map (·.2)) vs)∧KV ((l.map fun p=>(Sum.inr p.1:Key)).zip vs) us∧PySem.Pairs (bB P w) es us∧us.map (·.1)=l.map (fun p=>(Sum.inr p.1:Key))∧∀ e∈es,∃ k,(bB P w).is k e.key=true∧e.hash=(bB P w).hash k
 | _,_,.nil=>⟨[],[],fun _ _=>aG.nil,.nil,.nil,rfl,fun _ h=>nomatch h⟩
 | _,_,.cons (a:=e) (b:=p) r t=>by
   obtain ⟨vs,us,h1,h2,h3,h4,h5⟩:=ents (P:=P) t
   obtain ⟨r1,⟨tk,r2⟩,v,r3,r4⟩:=r
   have hk:(bB P w).is (Sum.inr p.1) e.key=true:=by
    rw [r2]
    show Value.isStrOf p.1 (.str p.1 tk)=true
    simp [Value.isStrOf]
   refine ⟨v :: vs,(Sum.inr p.1,e.val) :: us,fun H A=>aG.cons (r4 H A) (h1 H A),.cons ⟨rfl,r3⟩ h2,.cons hk rfl h3,by rw [iF,iF,h4],fun e' he=>?_⟩
   rcases dD.mp he with q | q
   · subst q
     exact ⟨Sum.inr p.1,hk,r1⟩
   · exact h5 e' q
theorem yW.of {X:Cx} {pins:List (Addr×Obj)} {σ:St} {H:Hp} {s:Shared} {a:Addr} {l:List (Str×T)} (I:Inv X pins σ H s) (d:yW X.w X.K a l) :
  ∃ (vs:List V) (us:List (Key×Value)),(∀ H A,aG X.K H A (l.map (·.2)) vs)∧KV ((l.map fun p=>(Sum.inr p.1:Key)).zip vs) us∧s.heap.DictOf (bB X.prog X.w) a us∧(a == sysModules)=false:=by
 obtain ⟨es,ep,lk,hs,hp,nd⟩:=d
 obtain ⟨vs,us,h1,h2,h3,h4,h5⟩:=ents (P:=X.prog) hp
 refine ⟨vs,us,h1,h2,⟨_,es,ep,I.lq a _ lk,⟨rfl,rfl,rfl⟩,rfl,fun e he=>h5 e (by simpa using he),h3,?_⟩,hs⟩
 rw [h4]
 have e:(l.map fun p=>(Sum.inr p.1:Key))=(l.map (·.1)).map Sum.inr:=by rw [List.map_map]; rfl
 rw [e]
 exact List.Pairwise.map _ (fun a b h z=>h (Sum.inr.inj z)) nd
section
variable {X:Cx} {Z:Zc} {e c:Expr} {fe fc:FE} {x:Str} {p apos bg:Pos} {a:Addr} {l:List (Str×T)}
def GI (l:List (Str×T)) (k:Str):Option T:=fR (l.map fun p=>(Sum.inr p.1:Key)) (l.map (·.2)) (Sum.inr k)
def onStr (t:T) (f:Str→Prop):Prop:=match t with
 | .str k=>f k
 | _=>False
theorem C1 {t:T} {f:Str→Prop} (h:onStr t f):∃ k,t = .str k∧f k:=by
 unfold onStr at h
 split at h
 · exact ⟨_,rfl,h⟩
 · exact h.elim
def Uq (l:List (Str×T)) (fe:FE):FP:=fun ρ Q=>fe ρ fun y=>onStr y fun k=>Q (.vw ((GI l k).getD .bu))
theorem C2 (hg:Gl X x) (hm:X.mg x=some (.ref a)) (d:yW X.w X.K a l) (he:VR X Z e fe) (m:M1 X (.Name x p) "get" apos e bg) (hd:gg x:=by decide) :
  VP X Z (.Call (.Attribute (.Name x p) "get" apos) [e] [] bg) (Uq l fe):=.mk fun tm pins s σ H Q I ⟨ρ,O,q,E,hf,k⟩=>by
 refine wpAny_Call_method m.base m.Uo m.line R7 Nr PySem.F.type_dict_get (bX (rZ hg hm (v:=.ref a) rfl hd pins s σ H (fun v H'=>v = .ref a∧H'=H) I ⟨rfl,rfl⟩) fun u s1 ⟨x',H1,I1,rx,ex,eH⟩=>?_)
 subst ex eH
 obtain rfl:u=Value.ref a:=rx
 obtain ⟨vs,us,h1,h2,dd,hs⟩:=d.of I1
 refine ⟨dd.typeIs,fun b q=>?_,?_⟩
 · cases q
   obtain ⟨ob,_,_,z1,z2,_⟩:=dd
   exact ⟨ob,z1,z2.2.1⟩
 rw [m.trees]
 refine QT rfl (Calls.evalArgs_plain (Calls.spliced_cons (bX (he tm pins s1 σ H1 (fun y H2=>∃ t,gB X.K H2 (av Z O) t y∧aK H1 H2∧onStr t fun k=>q (.vw ((GI l k).getD .bu))) I1 ⟨ρ,O,_,E,hf,fun t ht v H' s a1=>⟨t,a1,s,ht⟩⟩) fun iv s2 ⟨y,H2,I2,ry,t,a1,sa,q3⟩=>Calls.spliced_nil ?_)))
 obtain ⟨kk,et,q3⟩:=C1 q3
 subst et
 obtain ⟨ki,RC,TL,Le,IU,Ru⟩:=d.of I2
 have ey:=a1.str
 subst ey
 refine call_meetsIn Nr IU.typeIs R9 (R6 _ _) (meets_dict_get (bB X.prog X.w) a (uZ (k:=Sum.inr kk) ry) Ru) ⟨_,IU.mapOf,⟨_,H2,I2.tok _,(Le.val (Sum.inr kk)).getD (d:=.bu) rfl,?_⟩⟩
 rw [eV]
 exact k _ q3 _ H2 sa ⟨E.same sa,yV (TL H2 (av Z O)) og⟩
end
end VT
namespace Gen
open PySem L2 VT
open wH (bx)
theorem small {n:Nat} (h:n≤1000):n≤sizeLine:=Nat.le_of_lt (zO h)
def gn (n:Int):Nat:=bx.cps.toList.getD (n % 26).toNat 0
theorem u6:bx.cps.toList.length=26:=by decide +kernel
theorem sS:bx.length=26:=by decide +kernel
theorem fS:bx.length≤sizeLine:=by rw [sS,sizeLine_eq]; decide
theorem rA (n:Int):jS bx.cps.toList (n % 26)=some (gn n):=by
 have h0:0≤n % 26:=lp n (by decide)
 have h1:n % 26 < 26:=mX n (by decide)
 unfold gn
 obtain ⟨j,hj⟩:=EI h0
 rw [hj]
 have fz:j < bx.cps.toList.length:=by rw [u6]; omega
 refine aq ?_
 rw [Ia,List.getD,kg fz]
 rfl
def qD (c:Int):Int:=c % 1000000000000
def jF (c:Int):Nat:=(1+qD c % 7).toNat
def Ab (c:Int):Nat:=(qD c / 7 % (jF c:Int)).toNat
def sT (c:Int) (k j:Nat):Int:=qD c / 49 / ((j:Int)+1)+(j:Int) * (j:Int)+(if j=Ab c then (k:Int) else 0)
def bQ (c:Int) (k n:Nat):Str:=⟨((List.range n).map fun j=>gn (sT c k j)).toArray⟩
def cO (c:Int) (m:Nat):List Str :=
 if qD c / 49 % 3=1 then ((List.range m).map fun k=>bQ c k (jF c)).set 1 (bQ c 0 (jF c) ++ ⟨#[gn (qD c / 147)]⟩) else (List.range m).map fun k=>bQ c k (jF c)
theorem IV (c:Int):((jF c:Nat):Int)=1+qD c % 7:=by
 unfold jF
 have:0≤qD c % 7:=lp _ (by decide)
 omega
theorem oW (c:Int):1≤jF c∧jF c≤7:=by
 have:=IV c
 have h0:0≤qD c % 7:=lp _ (by decide)
 have h1:qD c % 7 < 7:=mX _ (by decide)
 omega
theorem IW (c:Int):((Ab c:Nat):Int)=qD c / 7 % (jF c:Int):=by
 unfold Ab
 have h:=oW c
 have:0≤qD c / 7 % (jF c:Int):=lp _ (by omega)
 omega
theorem Pd (c:Int):Ab c < jF c:=by
 have h:=oW c
 have h1:=IW c
 have:qD c / 7 % (jF c:Int) < jF c:=mX _ (by omega)
 omega
theorem xa (c:Int) (k n:Nat):bQ c k (n+1)=bQ c k n ++ ⟨#[gn (sT c k n)]⟩:=by
 unfold bQ
 rw [List.range_succ,ud]
 show _=Str.mk (_ ++ _)
 congr 1
 simp
theorem eF (c:Int) (k n:Nat):(bQ c k n).length=n:=by
 unfold bQ Str.length
 simp
theorem xb (c:Int) (m:Nat):(cO c m).length=m:=by
 unfold cO
 split <;> simp
theorem Pe:(10:Int) ^ (12:Int).toNat=1000000000000:=by decide +kernel
inductive kj where
 | nm (x:Str)
 | nu (i:Int)
inductive Ky where
 | fld (x:Str)
 | op (o:kj)
inductive Rw where
 | df (f:Str) (ps:List Str)
 | give (a:kj)
 | put (x:Str) (a:kj)
 | C3 (x:Str) (a:kj) (op:Str) (b:kj)
 | new (x:Str)
 | get (x r:Str) (k:Ky)
 | set (r:Str) (k:Ky) (a:kj)
 | call (x f:Str) (as:List kj)
 | fail (w:Str)
 | LH (a:kj)
 | RD
 | Ac (a:kj)
 | fin
 | skip
def lu:kj→T
 | .nm x=>.str x
 | .nu i=>.int i
def GJ:Ky→T
 | .fld x=>.str ((("." : String):Str) ++ x)
 | .op o=>lu o
def aH:Rw→T
 | .df f ps=>.tup [.str "def",.str f,.tup (ps.map .str)]
 | .give a=>.tup [.str "give",lu a]
 | .put x a=>.tup [.str "put",.str x,lu a]
 | .C3 x a op b=>.tup [.str "do",.str x,lu a,.str op,lu b]
 | .new x=>.tup [.str "new",.str x]
 | .get x r k=>.tup [.str "get",.str x,.str r,GJ k]
 | .set r k a=>.tup [.str "set",.str r,GJ k,lu a]
 | .call x f as=>.tup [.str "call",.str x,.str f,.tup (as.map lu)]
 | .fail w=>.tup [.str "fail",.str w]
 | .LH a=>.tup [.str "if",lu a]
 | .RD=>.tup [.str "else"]
 | .Ac a=>.tup [.str "while",lu a]
 | .fin=>.tup [.str "end"]
 | .skip=>.tup [.str "skip"]
def cy (ys:List Str):kj→Prop
 | .nm x=>x∈ys
 | .nu i=>-1000000000000000000000000000000≤i∧i < 1000000000000000000000000000000
def Ad (ys:List Str):Ky→Prop
 | .fld x=>x∈ys
 | .op o=>cy ys o
abbrev Plan:=List (Str×List Str)
def reckon:List Str:=["plus","minus","times","over","rest","less","same"]
def iX (ys:List Str) (later:Plan):Rw→Prop
 | .put x a=>x∈ys∧cy ys a
 | .C3 x a op b=>x∈ys∧cy ys a∧op∈reckon∧cy ys b
 | .new x=>x∈ys
 | .get x r k=>x∈ys∧r∈ys∧Ad ys k
 | .set r k a=>r∈ys∧Ad ys k∧cy ys a
 | .call x f as=>x∈ys∧(∃ ps,(f,ps)∈later∧as.length=ps.length)∧∀ a∈as,cy ys a
 | .fail w=>w∈ys
 | .skip=>True
 | _=>False
def bj (p:Str×List Str):T:=.tup [.str p.1,.tup (p.2.map .str)]
theorem kM {ys:List Str} (hl:ys.length=6) {n:Int} {m:Nat} (hm:0 < m) (Z4:m≤6):∃ y∈ys,jS (ys.map T.str) (n % (m:Int))=some (T.str y):=by
 have h0:0≤n % (m:Int):=lp n (by omega)
 have h1:n % (m:Int) < m:=mX n (by omega)
 obtain ⟨j,hj⟩:=EI h0
 have fz:j < ys.length:=by omega
 refine ⟨ys[j],BI fz,?_⟩
 rw [hj]
 refine aq ?_
 rw [ly,kg fz]
 rfl
theorem Pf:(10:Int) ^ (30:Int).toNat=1000000000000000000000000000000:=by decide +kernel
theorem Pg:(10:Int) ^ (9:Int).toNat=1000000000:=by decide +kernel
theorem Ph:(10:Int) ^ (6:Int).toNat=1000000:=by decide +kernel
theorem Ur:((("." : String):Str)).length=1:=by decide +kernel
theorem Pj (i:Int):∃ op∈reckon,jS [T.str "plus",T.str "minus",T.str "times",T.str "over",T.str "rest",T.str "less",T.str "same"] (i % 7)=some (T.str op):=by
 have h0:0≤i % 7:=lp i (by decide)
 have h1:i % 7 < 7:=mX i (by decide)
 obtain ⟨j,hj⟩:=EI h0
 rw [hj] at h1 ⊢
 have:j=0∨j=1∨j=2∨j=3∨j=4∨j=5∨j=6:=by omega
 rcases this with rfl | rfl | rfl | rfl | rfl | rfl | rfl
 · exact ⟨"plus",by simp [reckon],aq rfl⟩
 · exact ⟨"minus",by simp [reckon],aq rfl⟩
 · exact ⟨"times",by simp [reckon],aq rfl⟩
 · exact ⟨"over",by simp [reckon],aq rfl⟩
 · exact ⟨"rest",by simp [reckon],aq rfl⟩
 · exact ⟨"less",by simp [reckon],aq rfl⟩
 · exact ⟨"same",by simp [reckon],aq rfl⟩
theorem LI {ys:List Str} (hl:ys.length=6) (n:Int):∃ y∈ys,jS (ys.map T.str) (4+n % 2)=some (T.str y):=by
 have h0:0≤n % 2:=lp n (by decide)
 have h1:n % 2 < 2:=mX n (by decide)
 obtain ⟨j,hj⟩:=EI h0
 have fz:4+j < ys.length:=by omega
 refine ⟨ys[4+j],BI fz,?_⟩
 rw [hj]
 have e:(4:Int)+(j:Int)=((4+j:Nat):Int):=by omega
 rw [e]
 refine aq ?_
 rw [ly,kg fz]
 rfl
def lZ (ys:List Str) (pl:Plan) (bG:List Str) (new:List Rw) (cZ:List Str):Prop :=
 (∃ o,cy ys o∧new=[.LH o]∧cZ=bG ++ ([("if" : Str)]:List Str))∨(∃ o,cy ys o∧new=[.Ac o]∧cZ=bG ++ ([("while" : Str)]:List Str)) ∨
 (∃ y,y∈ys∧new=[.Ac (.nm y),.C3 y (.nm y) "minus" (.nu 1)]∧cZ=bG ++ ([("while" : Str)]:List Str))∨(∃ s0,bG=s0 ++ ([("if" : Str)]:List Str)∧new=[.RD]∧cZ=s0 ++ ([("else" : Str)]:List Str)) ∨
 (∃ s0 x,bG=s0 ++ [x]∧new=[.fin]∧cZ=s0)∨(∃ r,iX ys pl r∧new=[r]∧cZ=bG)
theorem GK {ys:List Str} {pl:Plan} {bG new cZ} (h:lZ ys pl bG new cZ):new.length+cZ.length≤bG.length+3:=by
 rcases h with ⟨o,_,rfl,rfl⟩ | ⟨o,_,rfl,rfl⟩ | ⟨y,_,rfl,rfl⟩ | ⟨s0,rfl,rfl,rfl⟩ | ⟨s0,x,rfl,rfl,rfl⟩ | ⟨r,_,rfl,rfl⟩ <;> simp <;> omega
def sU (ys:List Str) (pl:Plan):Prop:=∀ (k:Nat) f ps,pl[k]?=some (f,ps)→ys[k]?=some f∧∃ (a:Int) (r:Nat),r≤2∧ps=(List.range r).map fun j=>ys.getD ((a+((j:Nat):Int)) % 4).toNat Str.empty
theorem C4 {ys:List Str} (hl:ys.length=6) (n:Int):jS (ys.map T.str) (n % 4)=some (T.str (ys.getD (n % 4).toNat Str.empty)):=by
 have h0:0≤n % 4:=lp n (by decide)
 have h1:n % 4 < 4:=mX n (by decide)
 obtain ⟨j,hj⟩:=EI h0
 have fz:j < ys.length:=by omega
 rw [hj]
 refine aq ?_
 rw [ly,Ia,List.getD,kg fz]
 rfl
inductive Body (ys:List Str) (later:Plan):List Str→List Rw→Prop
 | nil:Body ys later [] []
 | step {bG cZ:List Str} {body new:List Rw}:Body ys later bG body→lZ ys later bG new cZ→Body ys later cZ (body ++ new)
inductive Pre (ys:List Str) (pl:Plan):Nat→List Rw→Prop
 | zero:Pre ys pl 0 []
 | succ {k:Nat} {rs:List Rw} {f:Str} {ps:List Str} {bG:List Str} {body:List Rw} {o:kj} {sk:List Rw}:Pre ys pl k rs→pl[k]?=some (f,ps)→Body ys (pl.drop (k+1)) bG body→cy ys o→(sk=[]∨sk=[.skip]) →
    Pre ys pl (k+1) (rs ++ (.df f ps :: (body ++ (List.replicate bG.length .fin ++ (.give o :: sk)))))
theorem ck {α:Type} {f:α→T} (h:∀ x,plainT (f x)=true):∀ l:List α,bT (l.map f)=true
 | []=>by simp [bT]
 | x :: l=>by simp only [iF,bT,h x,ck h l,Bool.and_self]
theorem cR {α:Type} {f:α→T} {n:Nat} (h:∀ x,dep (f x)≤n):∀ l:List α,lM (l.map f)≤n
 | []=>by simp [lM]
 | x :: l=>by have:=h x; have:=cR h l; simp only [iF,lM]; omega
theorem xg (p:Str×List Str):plainT (bj p)=true:=by simp [bj,plainT,bT,ck (f:=T.str) (fun _=>by simp [plainT])]
theorem u7 (pl:Plan):plainT (.lst (pl.map bj))=true:=by simp only [plainT]; exact ck xg pl
theorem C5 (p:Str×List Str):dep (bj p)≤2:=by
 have:=cR (f:=T.str) (n:=0) (fun _=>by simp [dep]) p.2
 simp only [bj,dep,lM]; omega
theorem Ae (pl:Plan):dep (.lst (pl.map bj))≤100:=by have:=cR (f:=bj) (n:=2) C5 pl; simp only [dep]; omega
theorem l0 (o:kj):plainT (lu o)=true:=by cases o <;> simp [lu,plainT]
theorem Af (o:Ky):plainT (GJ o)=true:=by cases o with | fld x=>simp [GJ,plainT] | op o=>exact l0 o
theorem xi (r:Rw):plainT (aH r)=true:=by
 cases r <;> simp [aH,plainT,bT,l0,Af,ck (f:=T.str) (fun _=>by simp [plainT]),ck (f:=lu) l0]
theorem sV (o:kj):dep (lu o)=0:=by cases o <;> simp [lu,dep]
theorem GL (o:Ky):dep (GJ o)=0:=by cases o with | fld x=>simp [GJ,dep] | op o=>exact sV o
theorem u9 (r:Rw):dep (aH r)≤2:=by
 have h1:=fun l:List Str=>cR (f:=T.str) (n:=0) (fun _=>by simp [dep]) l
 have h2:=fun l:List kj=>cR (f:=lu) (n:=0) (fun o=>by simp [sV]) l
 cases r <;> simp [aH,dep,lM,sV,GL] <;> first | (rename_i x; have:=h1 x; omega) | (rename_i x; have:=h2 x; omega) | skip
end Gen
namespace fB
open PySem L2 VT Gen wH
def top (i:Nat):Stmt:=PySem.Challenge.pw_slicewise_k08_calls_refused.main.body.getD i (.Pass ⟨0,0,0,0⟩)
abbrev fL:Stmt:=top 17
abbrev jq:Stmt:=top 18
abbrev gS:Stmt:=top 19
abbrev j6:Stmt:=top 20
abbrev oX:Stmt:=top 21
structure RE (mg:Str→Option Value):Prop where
 H:∃ t,mg "H" = some (.int 1000000000000000000000000000000 t)
 GN:∃ t,mg "LETTERS" = some (.str bx t)
 sW:∃ t,mg "LONGEST_NAME" = some (.int 8 t)
 isinstance:mg "isinstance" = none
 int:mg "int" = none
 bool:mg "bool" = none
 str:mg "str" = none
 len:mg "len" = none
 all:mg "all" = none
theorem j7 {n:Nat} (h:n≤1000):n≤sizeLine:=small h
def kN:T→Bool
 | .lst _=>false
 | .dk _ _=>false
 | .dt _ _=>false
 | .df _ _ _=>false
 | .dz _ _ _=>false
 | .kt _=>false
 | .ins _ _ _=>false
 | .pin _ _=>false
 | .ob _=>false
 | .ty _=>false
 | _=>true
def Pk:T→Bool
 | .int i=>decide (-1000000000000000000000000000000≤i) && decide (i < 1000000000000000000000000000000)
 | _=>false
def dZ:T→Bool
 | .str x=>bV x
 | _=>false
def Pl (ts:List T) (q:Rt→Prop):Prop:=∃ t,ts=[t]∧kN t=true∧q (.vw (.bl (Pk t)))
def ik (ts:List T) (q:Rt→Prop):Prop:=∃ t,ts=[t]∧kN t=true∧(∀ x,t = .str x→x.length≤1000)∧q (.vw (.bl (dZ t)))
def C6 (r:Rt) (A:Prop) (B:Prop):Prop:=match r with
 | .vw (.bl true)=>A
 | .vw (.bl false)=>B
 | _=>False
theorem C7 {c d:Bool} {q:Rt→Prop} (h:q (.vw (.bl (c && d)))):C6 (.vw (.bl c)) (q (.vw (.bl d))) (q (.vw (.bl false))):=by
 cases c with
 | _=>exact h
theorem u_ {c:Bool} {A B:Prop} (h1:c=true→A) (h2:c=false→B):C6 (.vw (.bl c)) A B:=by
 cases c with
 | true=>exact h1 rfl
 | false=>exact h2 rfl
theorem yX:∀ l:List Nat,cc (l.map ((fun t:T=>match t with | .str y=>.bl (yQ y bx) | _=>.bu) ∘ fun c=>T.str ⟨#[c]⟩))=some (l.map ET)
 | []=>rfl
 | c :: l=>by
   rw [iF,iF]
   show (cc _).map _=_
   rw [yX l]
   rfl
section
variable {P:Program} {w:World} {K:PySem.W.Frag} {mg:Str→Option Value} {base:Heap}
abbrev mK:List Str:=["thing"]
theorem kO:aI mK ["thing"] (aj fL):=L2.gI
theorem Ag {f:Addr} {fd:FuncData} (D:Df K mg "is_number" fL ["thing"] f fd) (M:RE mg):b8 P w K mg base "is_number" ["thing"] 1 (bW K 1 Pl):=by
 refine D.jo (j5 D.F kO rfl fun bD A outer s H E Ox hr ts q hG=>?_)
 have nd:=kO.nd
 obtain ⟨tH,mH⟩:=M.H
 have Wt:∀ {pos},VP (dI iN P w K mg base mK "is_number" (aj fL) f bD A outer s H E).nI ⟨H,[],Ox⟩ (.Name "H" pos) (fC (.int 1000000000000000000000000000000)):=ej (by rfl) mH (v:=.int 1000000000000000000000000000000) ⟨tH,rfl⟩ fun _ _=>bE
 refine ⟨_,(ah (aD (VP.vx (oi (eD uT (by rfl) M.isinstance (by rfl) M.int IL (aa 0)) (oi (KL (eD rl (by rfl) M.isinstance (by rfl) M.bool CF (aa 0))) (lL (CB BX BW (VP.vr (gN (VP.vr Wt))) (aa 0) (VP.vr Wt)))))))),fun _=>?_⟩
 obtain ⟨t,rfl,ht,hq⟩:=hG
 cases t with
 | bu=>exact ⟨rfl,hq⟩
 | bl b=>exact ⟨rfl,rfl,hq⟩
 | str x=>exact ⟨rfl,hq⟩
 | tup l=>exact ⟨rfl,hq⟩
 | int i =>
   refine ⟨rfl,rfl,?_⟩
   have fU:q (.vw (.bl (decide (-1000000000000000000000000000000≤i) && decide (i < 1000000000000000000000000000000)))):=hq
   exact C7 (c:=decide (-1000000000000000000000000000000≤i)) fU
 | _=>cases ht
abbrev l6:List Str:=["thing"]
theorem oY:aI l6 ["thing"] (aj jq):=L2.gI
theorem qF:(l6 ++ (["sign"]:List Str)).Nodup:=by decide +kernel
theorem GO {f:Addr} {fd:FuncData} (D:Df K mg "is_name" jq ["thing"] f fd) (M:RE mg):b8 P w K mg base "is_name" ["thing"] 1 (bW K 1 ik):=by
 refine D.jo (j5 D.F oY rfl fun bD A outer s H E Ox hr ts q hG=>?_)
 have nd:=oY.nd
 have np:∀ {i:Nat},aX ⟨H,[],Ox⟩ i:=kG
 obtain ⟨tL,mL⟩:=M.GN
 obtain ⟨tN,mN⟩:=M.sW
 have oZ:∀ {pos},VP (dI iN P w K mg base l6 "is_name" (aj jq) f bD A outer s H E).nI ⟨H,[],Ox⟩ (.Name "LONGEST_NAME" pos) (fC (.int 8)):=ej (by rfl) mN (v:=.int 8) ⟨tN,rfl⟩ fun _ _=>bE
 refine ⟨_,(ag (aS (VW.vc (jI (di (cY (eD oJ (by rfl) M.isinstance (by rfl) M.str CG (aa 0)))) (gL (di (CC BX BX (VP.vr af) (VP.vr (aB ay az (by rfl) M.len gE (ao (aa 0) aw))) (VP.vr oZ))))))
    (ah (aD (VP.vx jH)))
    aA)
   (ah (aD (VP.vx (aB (dg rfl) jm (by rfl) M.all yS (ao (VP.vr (ji (ts:=["sign"]) rfl (by rfl) (iT (ak 0)) (fun _ _ _ _ _ _=>(aQ (i:=1) qF rfl (Or.inl rfl) np)) (fun _ _ _ _ _ _=>kC) (fun _ _ _ _ _ _=>(VP.ve (Cz (aa 1) (VP.vr (ej (by rfl) mL (v:=.str bx) ⟨tL,rfl⟩ fun _ _=>cf))))))) aw)))))),fun _=>?_⟩
 obtain ⟨t,rfl,ht,hx,hq⟩:=hG
 cases t with
 | bu=>exact ⟨rfl,hq⟩
 | bl b=>exact ⟨rfl,hq⟩
 | int x=>exact ⟨rfl,hq⟩
 | tup l=>exact ⟨rfl,hq⟩
 | str x =>
   have hl:=hx x rfl
   have fU:q (.vw (.bl (decide (1≤(x.length:Int)) && (decide ((x.length:Int)≤8) && x.cps.toList.all ET)))):=hq
   refine ⟨rfl,j7 hl,u_ (c:=decide (1≤(x.length:Int))) (fun h1=>?_) (fun h1=>?_)⟩
   · rw [h1,zA] at fU
     refine B7 (fun h2=>?_) (fun h2=>?_)
     · have Le:(!decide ((x.length:Int)≤8))=true:=h2
       have h3:decide ((x.length:Int)≤8)=false:=by simpa using Le
       rw [h3,Ie] at fU
       exact fU
     · have Le:¬ (!decide ((x.length:Int)≤8))=true:=h2
       have h3:decide ((x.length:Int)≤8)=true:=by simpa using Le
       rw [h3,zA] at fU
       refine ⟨rfl,by rw [bZ,MV]; exact j7 hl,jj (fun _=>true) (fun t=>match t with | .str y=>.bl (yQ y bx) | _=>.bu) (fun t ht k r h=>?_) ?_⟩
       · obtain ⟨c,_,rfl⟩:=yr.mp ht
         exact ⟨_,rfl,h⟩
       · rw [Q1.mpr (fun _ _=>rfl),List.map_map]
         refine ⟨x.cps.toList.map ET,yX x.cps.toList,?_⟩
         rw [List.all_map]
         exact fU
   · rw [h1,Ie] at fU
     exact fU
 | _=>cases ht
end
def gT (t:T):Bool:=dZ t || Pk t
def C8 (ts:List T) (q:Rt→Prop):Prop:=∃ t,ts=[t]∧kN t=true∧(∀ x,t = .str x→x.length≤1000)∧q (.vw (.bl (gT t)))
section
variable {P:Program} {w:World} {K:PySem.W.Frag} {mg:Str→Option Value} {base:Heap}
abbrev sX:List Str:=["thing"]
theorem jJ:aI sX ["thing"] (aj gS):=L2.gI
theorem j8 {f:Addr} {fd:FuncData} (D:Df K mg "is_operand" gS ["thing"] f fd) (c1:b8 P w K mg base "is_name" ["thing"] 1 (bW K 1 ik)) (c2:b8 P w K mg base "is_number" ["thing"] 1 (bW K 1 Pl)):b8 P w K mg base "is_operand" ["thing"] 2 (bW K 1 C8):=by
 obtain ⟨l7,j9,dP,dQ,dR,dS⟩:=c1
 obtain ⟨IX,GP,va,vb,vd,vf⟩:=c2
 refine D.jo (j5 D.F jJ rfl fun bD A outer s H E Ox hr ts q hG=>?_)
 have nd:=jJ.nd
 refine ⟨_,(ah (aD (VP.vx (yI (aL dS (hr.mono (by decide)) (by rfl) dP dQ dR (ae (ak 0) ai)) (lL (aL vf (hr.mono (by decide)) (by rfl) va vb vd (ae (ak 0) ai))))))),fun _=>?_⟩
 obtain ⟨t,rfl,ht,hx,hq⟩:=hG
 unfold gT at hq
 refine ⟨rfl,t,rfl,ht,hx,u_ (c:=dZ t) (fun h=>?_) (fun h=>⟨rfl,t,rfl,ht,?_⟩)⟩
 · rw [h,Bool.true_or] at hq; exact hq
 · rw [h,Bool.false_or] at hq; exact hq
end
end fB
namespace VT
open PySem PySem.Spec PyProof.Rows L2
section
variable {X:Cx} {Z:Zc} {a b:Expr} {fa fb:FE} {pos:Pos}
end
end VT
namespace RV
open PySem PySem.Spec PyProof.Rows
def vg (h:Heap) (it l:Addr) (i:Int):Prop:=∃ o,h.get? it=some o∧o.cls = .type "list_reverseiterator"∧o.data = .fields #[.ref l,.int i 0]
section
variable {prog:Program} {w:World} {A:Around} {E:Value→Shared→Prop} {s:Shared}
theorem vg.typeIs {it l:Addr} {i:Int} (h:vg s.heap it l i):s.TypeIs (.ref it) "list_reverseiterator":=let ⟨o,ho,hc,_⟩:=h; ⟨o,ho,hc⟩
end
theorem vg.at {h h':Heap} {it l:Addr} {i:Int} (x:vg h it l i) (k:∀ o,h.get? it=some o→h'.get? it=some o):vg h' it l i:=let ⟨o,ho,r⟩:=x; ⟨o,k o ho,r⟩
section
variable {prog:Program} {w:World} {A:Around} {s:Shared} {R:Result→Shared→Prop}
variable {I:Addr} {fp wr:List Addr} {G:Array GenState→Array GenState→Prop} {n:Nat} {P:Nat→Value→Prop} {St:Nat→Shared→Prop}
def Ends (prog:Program) (w:World) (A:Around) (I:Addr) (wr:List Addr) (G:Array GenState→Array GenState→Prop) (n:Nat) (St:Nat→Shared→Prop):Prop :=
 ∀ (s:Shared) (Q:Option Value→Shared→Prop) (E:Value→Shared→Prop),St n s→(∀ s',Moved wr G s s'→(∃ o,s'.heap.get? I=some o)→Q none s')→wpAny (model prog w) A (pyNext (.ref I)) Q E s
end
section
variable {prog:Program} {w:World} {A:Around} {E:Value→Shared→Prop} {s:Shared}
variable {I:Addr} {fp wr:List Addr} {G:Array GenState→Array GenState→Prop} {n:Nat} {P:Nat→Value→Prop} {St:Nat→Shared→Prop}
end
section
variable {prog:Program} {w:World} {A:Around} {E:Value→Shared→Prop} {s:Shared}
end
end RV
namespace VT
open PySem PySem.Spec PyProof.Rows L2
section
variable {X:Cx}
end
section
variable {X:Cx} {Z:Zc} {a:Expr} {fa:FE} {p1 p2 GA z7:Pos}
end
theorem yY {n:Nat} (h:n+101 < cLine):n+1 < cLine:=by omega
section
variable {X:Cx} {Z:Zc} {ek ev:Expr} {fk fv:FE} {pos:Pos}
end
section
variable {X:Cx}
end
section
variable {K:PySem.W.Frag} {H:Hp} {A:List Addr}
theorem rB:∀ {ys:List Str} {vs:List V},aG K H A (ys.map T.str) vs→vs=ys.map V.str
 | [],vs,h=>by simpa only [JC,aG] using h
 | y :: ys,vs,h=>by
   simp only [iF,aG] at h
   obtain ⟨v,r,rfl,h1,h2⟩:=h
   simp only [At] at h1
   rw [h1,rB h2]
   rfl
end
section
variable {X:Cx}
theorem Ah (hu:X.A.units+101 < cLine):d_ X (compareOp .In) (fun x y H Q=>∃ (p q:Addr) (xs:List V) (ys:List Str),x = .ref p∧y = .ref q∧dF X.K H p xs∧dF X.K H q (ys.map V.str)∧Q (.bl false) H):=by
 intro pins s σ H x y v u Q I rx ry h
 obtain ⟨p,q,xs,ys,rfl,rfl,h1,h2,hq⟩:=h
 cases rx
 cases ry
 obtain ⟨aP,r,pl,hz⟩:=I.tuple h1
 obtain ⟨eA,r2,Yb,Z5⟩:=I.tuple h2
 have lJ:∀ w∈eA.toArray,SeqAt.EqAt X.A.in1 s w (.ref p) false:=by
  intro w hw
  have Yc:w∈eA:=by simpa using hw
  obtain ⟨i,hi⟩:=Ju.mp Yc
  have hl:=r2.length
  rw [bZ] at hl
  have Yd:i < ys.length:=by have:=(fH.mp hi).1; omega
  obtain ⟨u,cJ,ru⟩:=r2.get (show (ys.map V.str)[i]?=some (.str ys[i]) by rw [ly,kg Yd]; rfl)
  rw [hi] at cJ
  cases cJ
  obtain ⟨t,rfl⟩:=ru
  exact SeqAt.EqAt.str_tuple _ _ pl (by rw [in1_units]; omega)
 refine SeqAt.in_tupleAt (fun _=>false) Yb lJ ⟨.bl false,H,I,?_,hq⟩
 show Value.bool _=Value.bool false
 congr 1
 exact Array.any_eq_false.mpr (by simp)
def LJ (x y:T) (q:Rt→Prop):Prop:=match x,y with
 | .tup _,.tup us=>∃ ys:List Str,us=ys.map .str∧q (.vw (.bl false))
 | _,_=>False
theorem GQ {K:PySem.W.Frag}:qc K (fun x y H Q=>∃ (p q:Addr) (xs:List V) (ys:List Str),x = .ref p∧y = .ref q∧dF K H p xs∧dF K H q (ys.map V.str)∧Q (.bl false) H) LJ:=by
 intro Z tm O ρ σ H x y v w q Q I h1 h2 h k
 unfold LJ at h
 split at h
 · obtain ⟨ys,rfl,h⟩:=h
   obtain ⟨a,vs,rfl,s1,_⟩:=h1.tup
   obtain ⟨b,ws,rfl,s2,a2⟩:=h2.tup
   have e:ws=ys.map V.str:=rB a2
   rw [e] at s2
   exact ⟨a,b,vs,ys,rfl,rfl,s1,s2,k _ h _ H (aK.refl H) ⟨I,cM⟩⟩
 · exact h.elim
def LK (x y:T) (q:Rt→Prop):Prop:=match x with
 | .tup _=>LJ x y q
 | _=>OQ x y q
def Pm (K:PySem.W.Frag):R2:=fun x y H Q=>Cy K false x y H Q∨∃ (p q:Addr) (xs:List V) (ys:List Str),x = .ref p∧y = .ref q∧dF K H p xs∧dF K H q (ys.map V.str)∧Q (.bl false) H
theorem LL (hu:X.A.units+101 < cLine):d_ X (compareOp .In) (Pm X.K):=by
 intro pins s σ H x y v u Q I rx ry h
 rcases h with h | h
 · exact wN pins s σ H x y v u Q I rx ry h
 · exact Ah hu pins s σ H x y v u Q I rx ry h
theorem GR {K:PySem.W.Frag}:qc K (Pm K) LK:=by
 intro Z tm O ρ σ H x y v w q Q I h1 h2 h k
 unfold LK at h
 split at h
 · exact Or.inr (GQ Z tm O ρ σ H _ y v w q Q I h1 h2 h k)
 · exact Or.inl (wO Z tm O ρ σ H x y v w q Q I h1 h2 h k)
end
section
variable {X:Cx} {Z:Zc} {a b e:Expr} {fa fb:FE} {pos:Pos}
theorem LM (hu:X.A.units+101 < cLine) (ha:VR X Z a fa) (hb:VR X Z b fb) (hm:behindInMarks .In b=false:=by rfl):VP X Z (.Compare a [.In] [b] pos) (f2 fa fb LK):=oh (LL hu) GR ha hb hm
end
abbrev Ye:=En→(List (Key×T)→Prop)→Prop
section
variable {X:Cx} {Z:Zc} {ek ev:Expr} {fk fv:FE} {pos:Pos} {keys:List (Option Expr)} {values:List Expr} {f:Ye}
variable {e:Expr} {apos bg:Pos}
end
section
variable {X:Cx} {Z:Zc} {a b o e i:Expr} {fa fb fe fo fi:FE} {pos apos bg:Pos}
end
def andM (r:Rt) (A B:Prop):Prop:=match r with
 | .vw (.bl true)=>A
 | .vw (.bl false)=>B
 | _=>False
theorem yZ {c:Bool} {A B:Prop} (h1:c=true→A) (h2:c=false→B):andM (.vw (.bl c)) A B:=by
 cases c with
 | true=>exact h1 rfl
 | false=>exact h2 rfl
section
variable {X:Cx} {Z:Zc} {k n:Nat} {x:Str} {p pos:Pos} {e:Expr} {es:List Expr} {g:FA}
abbrev GV:=List T→(Rt→Prop)→Prop
def C9 (i n:Nat) (g:FA) (Fn:Addr→GV→Prop):FP:=fun ρ Q=>match ρ[i]? with
 | some (some (.ob f,false))=>∃ G,Fn f G∧g ρ fun ts=>ts.length=n∧G ts Q
 | _=>False
theorem C_ (i:Nat) {Fn:Addr→GV→Prop} (C:∀ f G,Fn f G→PySem.W.keepIn X.K (.ref f)=true∧∃ fd ps,Binds X.K fd ps []∧cN X.prog X.w X.K X.mg X.base iN k f fd ps (bW X.K n G)) (hr:bp k X.A) (ha:VA X Z (e :: es) g)
  (hN:X.N[i]?=some x:=by rfl) (hv:rY X.env.scope x:=by first | exact Or.inl rfl | exact Or.inr (Or.inl rfl) | exact Or.inr (Or.inr rfl)) (hd:gg x:=by decide)
  (iB:ug x:=by decide) (he:starEach (e :: es) X.env=(false,eval e X.env) :: starEach es X.env:=by rfl) (fE:(backTo pos (starEach es X.env)).any (·.1)=false:=by rfl) :
  VP X Z (.Call (.Name x p) (e :: es) [] pos) (C9 i n g Fn):=.mk fun tm pins s σ H Q I ⟨ρ,O,q,E,hf,kk⟩=>by
 unfold C9 at hf
 split at hf
 · rename_i f e0
   obtain ⟨G,Yf,hf⟩:=hf
   obtain ⟨o,sv,h1,h2,rfl,v,rfl,h3⟩:=E.sl i _ e0
   simp only [At] at h3
   subst h3
   obtain ⟨hk,fd,ps,hb,F⟩:=C f G Yf
   refine wpAny_Call_Name_kw (bX (cW hN hv hd iB pins s σ H (fun v H'=>v = .ref f∧H'=H) I ⟨_,h2,rfl,rfl⟩) fun u s1 ⟨v,H1,I1,r,ev,eH⟩=>?_)
   subst ev eH
   obtain rfl:u=Value.ref f:=r
   refine Q2 (h₀:=X.base) I1.ok.mod.M5 hk (bX (ha tm pos pins s1 σ H1 (fun vs H2=>bW X.K n G (vs ++ []) H2 Q E0) I1 ⟨ρ,O,_,E,hf,fun ts gC vs H2 s2 a2=>yP (E.same s2) a2 gC.1 gC.2 fun r hr v H' s z=>kk r hr v H' (s2.trans s) z⟩) fun us s2 ⟨vs,H2,I2,r2,q2⟩=>⟨I2.lq,?_⟩) he fE
   exact B0 F hr hb .nil uA I2 r2 q2
 · exact hf.elim
end
end VT
namespace fB
open PySem L2 VT Gen wH
abbrev dn:Stmt:=top 22
abbrev dq:Stmt:=top 23
abbrev dU:Stmt:=top 24
structure LN (w:World) (K:PySem.W.Frag) (mg:Str→Option Value):Prop where
 m2:RE mg
 xj:∃ t,mg "MOST_PARTS" = some (.int 4 t)
 xl:∃ a,mg "RECKONINGS" = some (.ref a)∧∀ H,dF K H a [.str "plus",.str "minus",.str "times",.str "over",.str "rest",.str "less",.str "same"]
 isinstance:mg "isinstance" = none
 int:mg "int" = none
 bool:mg "bool" = none
 str:mg "str" = none
 len:mg "len" = none
 all:mg "all" = none
 tuple:mg "tuple" = none
 set:mg "set" = none
 zip:mg "zip" = none
def GS:T→Bool
 | .str x=>su x
 | _=>false
def Dd (t:T):Bool:=GS t || gT t
def Pn:List T:=[.str "plus",.str "minus",.str "times",.str "over",.str "rest",.str "less",.str "same"]
def LO:T→Bool
 | .tup _=>false
 | t=>sN t Pn
def LP:T→Bool
 | .tup l=>decide (l.length≤4) && l.all gT
 | _=>false
def strsOf (l:List T):List Str:=l.filterMap fun t=>match t with
 | .str x=>some x
 | _=>none
def LQ:T→Bool
 | .tup l=>(decide (l.length≤4) && l.all gT) && (l.all dZ && decide ((once (strsOf l)).length=l.length))
 | _=>false
def qG (t:T):Prop:=(∃ x,t = .str x∧x.length≤100)∨∃ i,t = .int i
def Part (t:T):Prop:=qG t∨∃ l,t = .tup l∧l.length≤10∧∀ u∈l,qG u
theorem qG.flat {t:T} (h:qG t):kN t=true:=by rcases h with ⟨x,rfl,_⟩ | ⟨i,rfl⟩ <;> rfl
theorem qG.short {t:T} (h:qG t):∀ x,t = .str x→x.length≤1000:=by
 rintro x rfl
 rcases h with ⟨y,e,hy⟩ | ⟨i,e⟩
 · cases e; omega
 · cases e
theorem Part.flat {t:T} (h:Part t):kN t=true:=by rcases h with h | ⟨l,rfl,_⟩; exact h.flat; rfl
theorem Part.short {t:T} (h:Part t):∀ x,t = .str x→x.length≤1000:=by
 rcases h with h | ⟨l,rfl,_⟩
 · exact h.short
 · intro x e; cases e
def vh (p:T→Bool) (ts:List T) (q:Rt→Prop):Prop:=∃ t,ts=[t]∧Part t∧q (.vw (.bl (p t)))
abbrev LR:=vh GS
abbrev De:=vh Dd
abbrev LS:=vh LO
abbrev GU:=vh LP
abbrev LU:=vh LQ
theorem nt {b:Bool} (h:(!b)=true):b=false:=by cases b <;> simp_all
theorem nf {b:Bool} (h:¬ (!b)=true):b=true:=by cases b <;> simp_all
theorem o4 (p:T→Bool):∀ l:List T,cc (l.map fun t=>T.bl (p t))=some (l.map p)
 | []=>rfl
 | t :: l=>by
   rw [iF,iF]
   show (cc _).map _=_
   rw [o4 p l]
   rfl
theorem o5 {l:List T} (h:l.all dZ=true):l=(strsOf l).map .str:=by
 induction l with
 | nil=>rfl
 | cons t l ih =>
   rw [uo,iE] at h
   cases t with
   | str x =>
     show T.str x :: l=T.str x :: (strsOf l).map T.str
     rw [← ih h.2]
   | _=>cases h.1
section
variable {P:Program} {w:World} {K:PySem.W.Frag} {mg:Str→Option Value} {base:Heap}
abbrev xm:List Str:=["thing"]
theorem mQ:aI xm ["thing"] (aj j6):=L2.gI
theorem vi {f:Addr} {fd:FuncData} (D:Df K mg "is_field" j6 ["thing"] f fd) (M:LN w K mg) (gp:b8 P w K mg base "is_name" ["thing"] 1 (bW K 1 ik)):b8 P w K mg base "is_field" ["thing"] 2 (bW K 1 LR):=by
 obtain ⟨l7,j9,dP,dQ,dR,dS⟩:=gp
 refine D.jo (j5 D.F mQ rfl fun bD A outer s H E Ox hr ts q hG=>?_)
 have nd:=mQ.nd
 refine ⟨_,(ah (aD (VP.vx (oi (eD oJ (by rfl) M.isinstance (by rfl) M.str CG (aa 0)) (oi (z6 (aa 0) (VP.vr au)) (lL (aL dS (hr.mono (by decide)) (by rfl) dP dQ dR (ae (VP.ve (bF (aa 0) (bH (VP.vr af)) cj)) ai)))))))),fun _=>?_⟩
 obtain ⟨t,rfl,ht,hq⟩:=hG
 rcases ht with (⟨x,rfl,hx⟩ | ⟨i,rfl⟩) | ⟨l,rfl,_⟩
 · refine ⟨rfl,?_⟩
   have fU:q (.vw (.bl (Txt.startswith x "." && bV (Txt.slice x (some 1) none)))):=hq
   refine yZ (c:=Txt.startswith x ".") (fun h=>?_) (fun h=>?_)
   · rw [h,zA] at fU
     refine ⟨j7 (by omega),rfl,_,rfl,rfl,fun y e=>?_,fU⟩
     cases e
     exact mD (Txt.slice_le x _ _) (by omega)
   · rw [h,Ie] at fU
     exact fU
 · exact ⟨rfl,hq⟩
 · exact ⟨rfl,hq⟩
abbrev Dg:List Str:=["thing"]
theorem rC:aI Dg ["thing"] (aj oX):=L2.gI
theorem Ai {f:Addr} {fd:FuncData} (D:Df K mg "is_key" oX ["thing"] f fd) (M:LN w K mg) (xn:b8 P w K mg base "is_field" ["thing"] 2 (bW K 1 LR)) (du:b8 P w K mg base "is_operand" ["thing"] 2 (bW K 1 C8)):b8 P w K mg base "is_key" ["thing"] 3 (bW K 1 De):=by
 obtain ⟨LV,IY,xo,xq,xr,xt⟩:=xn
 obtain ⟨kP,jK,dw,dy,dA,dB⟩:=du
 refine D.jo (j5 D.F rC rfl fun bD A outer s H E Ox hr ts q hG=>?_)
 have nd:=rC.nd
 refine ⟨_,(ah (aD (VP.vx (yI (aL xt (hr.mono (by decide)) (by rfl) xo xq xr (ae (ak 0) ai)) (lL (aL dB (hr.mono (by decide)) (by rfl) dw dy dA (ae (ak 0) ai))))))),fun _=>?_⟩
 obtain ⟨t,rfl,ht,hq⟩:=hG
 have fU:q (.vw (.bl (GS t || gT t))):=hq
 refine ⟨rfl,t,rfl,ht,yZ (c:=GS t) (fun h=>?_) (fun h=>⟨rfl,t,rfl,ht.flat,ht.short,?_⟩)⟩
 · rw [h,Bool.true_or] at fU; exact fU
 · rw [h,Bool.false_or] at fU; exact fU
abbrev iY:List Str:=["thing"]
theorem ip:aI iY ["thing"] (aj dn):=L2.gI
theorem ni {f:Addr} {fd:FuncData} (D:Df K mg "is_reckoning" dn ["thing"] f fd) (M:LN w K mg):b8 P w K mg base "is_reckoning" ["thing"] 1 (bW K 1 LS):=by
 refine D.jo (j5 D.F ip rfl fun bD A outer s H E Ox hr ts q hG=>?_)
 have nd:=ip.nd
 have hu:=bp.fF hr
 obtain ⟨aR,mR,hR⟩:=M.xl
 have sY:∀ {pos},VP (dI iN P w K mg base iY "is_reckoning" (aj dn) f bD A outer s H E).nI ⟨H,[],Ox⟩ (.Name "RECKONINGS" pos) (fC (.tup Pn)):=ej (by rfl) mR (v:=.ref aR) rfl fun H A=>br (hR H) (aG.cons cf (aG.cons cf (aG.cons cf (aG.cons cf (aG.cons cf (aG.cons cf (aG.cons cf aG.nil)))))))
 refine ⟨_,(ah (aD (VP.vx (LM hu (aa 0) (VP.vr sY))))),fun _=>?_⟩
 obtain ⟨t,rfl,ht,hq⟩:=hG
 rcases ht with (⟨x,rfl,hx⟩ | ⟨i,rfl⟩) | ⟨l,rfl,_⟩
 · exact ⟨rfl,rfl,hq⟩
 · exact ⟨rfl,rfl,hq⟩
 · exact ⟨["plus","minus","times","over","rest","less","same"],rfl,hq⟩
abbrev eW:List Str:=["thing"]
theorem iq:aI eW ["thing"] (aj dq):=L2.gI
theorem j_:(eW ++ (["part"]:List Str)).Nodup:=by decide +kernel
theorem nq {f:Addr} {fd:FuncData} (D:Df K mg "are_operands" dq ["thing"] f fd) (M:LN w K mg) (du:b8 P w K mg base "is_operand" ["thing"] 2 (bW K 1 C8)):b8 P w K mg base "are_operands" ["thing"] 3 (bW K 1 GU):=by
 obtain ⟨kP,jK,dw,dy,dA,dB⟩:=du
 refine D.jo (j5 D.F iq rfl fun bD A outer s H E Ox hr ts q hG=>?_)
 have nd:=iq.nd
 have np:∀ {i:Nat},aX ⟨H,[],Ox⟩ i:=kG
 obtain ⟨tP,mP⟩:=M.xj
 have sZ:∀ {pos},VP (dI iN P w K mg base eW "are_operands" (aj dq) f bD A outer s H E).nI ⟨H,[],Ox⟩ (.Name "MOST_PARTS" pos) (fC (.int 4)):=ej (by rfl) mP (v:=.int 4) ⟨_,rfl⟩ fun _ _=>bE
 refine ⟨_,(ag (aS (VW.vc (jI (di (cY (eD oM (by rfl) M.isinstance (by rfl) M.tuple kH (aa 0)))) (gL (rh (VP.vr (aB ay az (by rfl) M.len gE (ao (aa 0) aw))) (VP.vr sZ)))))
    (ah (aD (VP.vx jH)))
    aA)
   (ah (aD (VP.vx (aB (dg rfl) jm (by rfl) M.all yS (ao (VP.vr (ji (ts:=["part"]) rfl (by rfl) (iT (ak 0)) (fun _ _ _ _ _ _=>(aQ (i:=1) j_ rfl (Or.inl rfl) np)) (fun _ _ _ _ _ _=>kC) (fun _ _ _ _ _ _=>(VP.ve (aL dB (hr.mono (by decide)) (by rfl) dw dy dA (ae (ak 1) ai)))))) aw)))))),fun _=>?_⟩
 obtain ⟨t,rfl,ht,hq⟩:=hG
 rcases ht with (⟨x,rfl,hx⟩ | ⟨i,rfl⟩) | ⟨l,rfl,hl,hL⟩
 · exact ⟨rfl,hq⟩
 · exact ⟨rfl,hq⟩
 · have fU:q (.vw (.bl (decide (l.length≤4) && l.all gT))):=hq
   refine ⟨rfl,?_⟩
   refine b_ (fun h=>?_) (fun h=>?_)
   · have h':(4:Int) < (l.length:Int):=h
     rw [decide_eq_false (by omega),Ie] at fU
     exact fU
   · have h':¬ (4:Int) < (l.length:Int):=h
     rw [decide_eq_true (by omega),zA] at fU
     refine ⟨rfl,j7 (by omega),jj (fun _=>true) (fun t=>T.bl (gT t)) (fun t ht k r h=>⟨rfl,t,rfl,(hL t ht).flat,(hL t ht).short,h⟩) ?_⟩
     rw [Q1.mpr (fun _ _=>rfl)]
     refine ⟨l.map gT,o4 gT l,?_⟩
     rw [List.all_map]
     exact fU
abbrev gq:List Str:=["thing"]
theorem fM:aI gq ["thing"] (aj dU):=L2.gI
theorem iZ:(gq ++ (["part"]:List Str)).Nodup:=by decide +kernel
theorem kQ {f:Addr} {fd:FuncData} (D:Df K mg "are_parameters" dU ["thing"] f fd) (M:LN w K mg) (eX:b8 P w K mg base "are_operands" ["thing"] 3 (bW K 1 GU)) (gp:b8 P w K mg base "is_name" ["thing"] 1 (bW K 1 ik)):b8 P w K mg base "are_parameters" ["thing"] 4 (bW K 1 LU):=by
 obtain ⟨o6,ny,eY,eZ,e7,e8⟩:=eX
 obtain ⟨l7,j9,dP,dQ,dR,dS⟩:=gp
 refine D.jo (j5 D.F fM rfl fun bD A outer s H E Ox hr ts q hG=>?_)
 have nd:=fM.nd
 have hu:=bp.fF hr
 have np:∀ {i:Nat},aX ⟨H,[],Ox⟩ i:=kG
 refine ⟨_,(ag (aS (VW.vc (jI (di (cY (aL e8 (hr.mono (by decide)) (by rfl) eY eZ e7 (ae (ak 0) ai)))) (gL (di (cY (aB (dg rfl) jm (by rfl) M.all yS (ao (VP.vr (ji (ts:=["part"]) rfl (by rfl) (iT (ak 0)) (fun _ _ _ _ _ _=>(aQ (i:=1) iZ rfl (Or.inl rfl) np)) (fun _ _ _ _ _ _=>kC) (fun _ _ _ _ _ _=>(VP.ve (aL dS (hr.mono (by decide)) (by rfl) dP dQ dR (ae (ak 1) ai)))))) aw)))))))
    (ah (aD (VP.vx jH)))
    aA)
   (ah (aD (VP.vx (mG hu (VP.vr (z8 rfl (by rfl) M.len (by rfl) M.set (aa 0))) (VP.vr (aB ay az (by rfl) M.len gE (ao (aa 0) aw)))))))),fun _=>?_⟩
 obtain ⟨t,rfl,ht,hq⟩:=hG
 refine ⟨rfl,t,rfl,ht,?_⟩
 rcases ht with (⟨x,rfl,hx⟩ | ⟨i,rfl⟩) | ⟨l,rfl,hl,hL⟩
 · exact hq
 · exact hq
 · have fU:q (.vw (.bl ((decide (l.length≤4) && l.all gT) && (l.all dZ && decide ((once (strsOf l)).length=l.length))))):=hq
   refine B7 (fun h=>?_) (fun h=>?_)
   · have h':(!(decide (l.length≤4) && l.all gT))=true:=h
     have h2:(decide (l.length≤4) && l.all gT)=false:=nt h'
     rw [h2,Ie] at fU
     exact fU
   · have h':¬ (!(decide (l.length≤4) && l.all gT))=true:=h
     have h2:(decide (l.length≤4) && l.all gT)=true:=nf h'
     rw [h2,zA] at fU
     refine ⟨rfl,j7 (by omega),jj (fun _=>true) (fun t=>T.bl (dZ t)) (fun t ht k r h=>⟨rfl,t,rfl,(hL t ht).flat,(hL t ht).short,h⟩) ?_⟩
     rw [Q1.mpr (fun _ _=>rfl)]
     refine ⟨l.map dZ,o4 dZ l,?_⟩
     rw [List.all_map]
     refine B7 (fun h3=>?_) (fun h3=>?_)
     · have Po:(!(l.all dZ))=true:=h3
       have h4:l.all dZ=false:=nt Po
       rw [h4,Ie] at fU
       exact fU
     · have Po:¬ (!(l.all dZ))=true:=h3
       have h4:l.all dZ=true:=nf Po
       rw [h4,zA] at fU
       refine ⟨strsOf l,.inr (by rw [← o5 h4]),?_,?_⟩
       · have:=congrArg List.length (o5 h4)
         rw [bZ] at this
         omega
       · have e:decide (((once (strsOf l)).length:Int)=(l.length:Int))=decide ((once (strsOf l)).length=l.length):=decide_eq_decide.mpr (by omega)
         show q (.vw (.bl (decide (((once (strsOf l)).length:Int)=(l.length:Int)))))
         rw [e]
         exact fU
end
abbrev o7:Stmt:=top 26
inductive So where
 | nm | op | key | rk | par | ops
def fnName:So→Str
 | .nm=>"is_name"
 | .op=>"is_operand"
 | .key=>"is_key"
 | .rk=>"is_reckoning"
 | .par=>"are_parameters"
 | .ops=>"are_operands"
def iD:So→T→Bool
 | .nm=>dZ
 | .op=>gT
 | .key=>Dd
 | .rk=>LO
 | .par=>LQ
 | .ops=>LP
def Us:So→List T→(Rt→Prop)→Prop
 | .nm=>ik
 | .op=>C8
 | .key=>De
 | .rk=>LS
 | .par=>LU
 | .ops=>GU
theorem Dh {s:So} {t:T} {q:Rt→Prop} (h:Part t) (hq:q (.vw (.bl (iD s t)))):Us s [t] q:=by
 cases s with
 | nm=>exact ⟨t,rfl,h.flat,h.short,hq⟩
 | op=>exact ⟨t,rfl,h.flat,h.short,hq⟩
 | _=>exact ⟨t,rfl,h,hq⟩
def mT:List (Str×List So):=[("def",[.nm,.par]),("give",[.op]),("put",[.nm,.op]),("do",[.nm,.op,.rk,.op]),("new",[.nm]),("get",[.nm,.nm,.key]),("set",[.nm,.key,.op]),("call",[.nm,.nm,.ops]),("fail",[.nm]),("if",[.op]),("else",[]),("while",[.op]),("end",[]),("skip",[])]
def kR:List (Str×List So)→Str→Option (List So)
 | [],_=>none
 | (k,ss) :: l,x=>if k=x then some ss else kR l x
def o8 (x:Str) (ps:List T):Bool:=match kR mT x with
 | none=>false
 | some ss=>decide (ps.length=ss.length) && (List.zipWith iD ss ps).all id
theorem rD (fo:So→Addr) (x:Str):∀ l:List (Str×List So),GI (l.map fun p=>(p.1,T.tup (p.2.map fun s=>T.ob (fo s)))) x=(kR l x).map fun ss=>T.tup (ss.map fun s=>T.ob (fo s))
 | []=>rfl
 | (k,ss) :: l=>by
   have ih:=rD fo x l
   unfold GI at ih ⊢
   simp only [iF,fR,kR]
   by_cases h:k=x
   · rw [if_pos h,if_pos (by rw [h])]; rfl
   · rw [if_neg h,if_neg (fun z=>h (Sum.inr.inj z))]; exact ih
theorem Aj:∀ x ss,kR mT x=some ss→ss.length≤4:=by
 intro x ss
 have:∀ l:List (Str×List So),(∀ p∈l,p.2.length≤4)→kR l x=some ss→ss.length≤4:=by
  intro l
  induction l with
  | nil=>intro _ h; cases h
  | cons p l ih =>
    intro hl h
    obtain ⟨k,s0⟩:=p
    simp only [kR] at h
    split at h
    · cases h; exact hl _ ij
    · exact ih (fun p hp=>hl p (jC _ hp)) h
 exact this mT (by simp [mT])
theorem rE {α:Type} {h:FG} {fe:FE} {ρ:En} {fA:α→T} {b:α→T→Bool}:∀ {ss:List α} {ps:List T} {Q:List T→Prop},(∀ s∈ss,∀ p∈ps,∀ r:T→Prop,r (.bl (b s p))→h (.tup [fA s,p]) ρ fun ρ2=>fe ρ2 r)→Q ((List.zipWith b ss ps).map .bl)→cQ h K7 fe ρ (oQ (ss.map fA) ps) Q
 | [],ps,Q,_,hq=>by simpa [oQ,cQ] using hq
 | s :: ss,[],Q,_,hq=>by simpa [oQ,cQ] using hq
 | s :: ss,p :: ps,Q,step,hq=>by
   show cQ h K7 fe ρ (T.tup [fA s,p] :: oQ (ss.map fA) ps) Q
   simp only [cQ]
   refine step s ij p ij _ ?_
   exact rE (fun s hs p hp=>step s (jC _ hs) p (jC _ hp)) hq
theorem vj:∀ l:List Bool,cc (l.map T.bl)=some l
 | []=>rfl
 | b :: l=>by
   rw [iF]
   show (cc _).map _=_
   rw [vj l]
   rfl
structure Wu (w:World) (K:PySem.W.Frag) (mg:Str→Option Value):Prop extends LN w K mg where
 Pp:∃ (a:Addr) (fo:So→Addr),mg "FORMS" = some (.ref a)∧(∀ s,mg (fnName s)=some (.ref (fo s)))∧yW w K a (mT.map fun p=>(p.1,T.tup (p.2.map fun s=>T.ob (fo s))))
def Pq (ts:List T) (q:Rt→Prop):Prop:=∃ (x:Str) (ps:List T),ts=[.tup (.str x :: ps)]∧ps.length≤10∧(∀ p∈ps,Part p)∧q (.vw (.bl (o8 x ps)))
theorem Ut (t:T) (ps:List T):dj (t :: ps) (some 1) none=ps:=by
 unfold dj
 have e:HT.cp (t :: ps).length 0 (some 1)=1:=by
  have:=HT.ky (t :: ps).length 0 1
  rw [show ((1:Nat):Int)=1 from rfl] at this
  rw [this]
  simp
 rw [e,HT.iK]
 simp
section
variable {P:Program} {w:World} {K:PySem.W.Frag} {mg:Str→Option Value} {base:Heap}
abbrev vk:List Str:=["row","form"]
theorem rF:aI vk ["row"] (aj o7):=L2.gI
theorem kS:(vk ++ (["fits","part"]:List Str)).Nodup:=by decide +kernel
theorem Ak {f:Addr} {fd:FuncData} (D:Df K mg "is_row" o7 ["row"] f fd) (M:Wu w K mg) (gp:b8 P w K mg base "is_name" ["thing"] 1 (bW K 1 ik)) (du:b8 P w K mg base "is_operand" ["thing"] 2 (bW K 1 C8)) (Di:b8 P w K mg base "is_key" ["thing"] 3 (bW K 1 De)) (o9:b8 P w K mg base "is_reckoning" ["thing"] 1 (bW K 1 LS)) (l8:b8 P w K mg base "are_parameters" ["thing"] 4 (bW K 1 LU)) (eX:b8 P w K mg base "are_operands" ["thing"] 3 (bW K 1 GU)):b8 P w K mg base "is_row" ["row"] 5 (bW K 1 Pq):=by
 obtain ⟨l7,j9,dP,dQ,dR,dS⟩:=gp
 obtain ⟨kP,jK,dw,dy,dA,dB⟩:=du
 obtain ⟨Pr,Nc,Dj,Dk,Dl,Dm⟩:=Di
 obtain ⟨Dn,BF,o_,pb,pd,pe⟩:=o9
 obtain ⟨Al,y0,l9,l_,ma,md⟩:=l8
 obtain ⟨o6,ny,eY,eZ,e7,e8⟩:=eX
 refine D.jo (j5 D.F rF rfl fun bD A outer s H E Ox hr ts q hG=>?_)
 have nd:=rF.nd
 have hu:=bp.fF hr
 have np:∀ {i:Nat},aX ⟨H,[],Ox⟩ i:=kG
 obtain ⟨aF,fo,GW,KD,Dp⟩:=M.Pp
 have LW:∀ f' G,(∃ s:So,f'=fo s∧G=Us s)→PySem.W.keepIn K (.ref f')=true∧∃ fd ps,Binds K fd ps []∧cN P w K mg base iN 4 f' fd ps (bW K 1 G):=by
  rintro f' G ⟨s,rfl,rfl⟩
  have h:=KD s
  cases s with
  | nm=>cases dP.symm.trans h; exact ⟨dQ,_,_,dR,dS.mono (by decide)⟩
  | op=>cases dw.symm.trans h; exact ⟨dy,_,_,dA,dB.mono (by decide)⟩
  | key=>cases Dj.symm.trans h; exact ⟨Dk,_,_,Dl,Dm.mono (by decide)⟩
  | rk=>cases o_.symm.trans h; exact ⟨pb,_,_,pd,pe.mono (by decide)⟩
  | par=>cases l9.symm.trans h; exact ⟨l_,_,_,ma,md.mono (by decide)⟩
  | ops=>cases eY.symm.trans h; exact ⟨eZ,_,_,e7,e8.mono (by decide)⟩
 refine ⟨_,(ag (aS (VW.vc (jI (di (cY (eD oM (by rfl) M.isinstance (by rfl) M.tuple kH (aa 0)))) (jI (bz hu (VP.vr (aB ay az (by rfl) M.len gE (ao (aa 0) aw))) (VP.vr af)) (gL (di (cY (eD oJ (by rfl) M.isinstance (by rfl) M.str CG (VP.vr (aJ (aa 0) (VP.vr af))))))))))
    (ah (aD (VP.vx jH)))
    aA)
   (ag (aV (i:=1) nd rfl (Or.inl rfl) (VP.vx (C2 (by rfl) GW Dp (VP.vr (aJ (aa 0) (VP.vr af))) ⟨rfl,rfl,rfl,rfl⟩)) np)
   (ag (aS (VW.vc (jI (uU (aa 1) (VP.vr jV)) (gL (oq hu (VP.vr (aB ay az (by rfl) M.len gE (ao (aa 0) aw))) (VP.vr (ba (VP.vr (aB ay az (by rfl) M.len gE (ao (aa 1) aw))) (VP.vr af)))))))
     (ah (aD (VP.vx jH)))
     aA)
   (ah (aD (VP.vx (aB (dg rfl) jm (by rfl) M.all yS (ao (VP.vr (ji (ts:=["fits","part"]) rfl (by rfl) (Lr (by rfl) M.zip (ak 1) (VP.ve (bF (aa 0) (bH (VP.vr af)) cj))) (fun _ _ _ _ _ _=>(gO (n:=2) rfl (bt (aQ (i:=2) kS rfl (Or.inl rfl) np) (bt (aQ (i:=3) kS rfl (Or.inl rfl) np) eB)))) (fun _ _ _ _ _ _=>kC) (fun _ _ _ _ _ _=>(VP.ve (C_ 2 LW (hr.mono (by decide)) (ae (ak 3) ai)))))) aw)))))))),fun _=>?_⟩
 obtain ⟨x,ps,rfl,hl,hP,hq⟩:=hG
 have Pt:=rD fo x mT
 refine ⟨rfl,_,aq (j:=0) rfl,rfl,_,aq (j:=0) rfl,?_⟩
 show onStr (T.str x) _
 unfold onStr
 dsimp only
 rw [Pt]
 cases hf:kR mT x with
 | none =>
   have hg:o8 x ps=false:=by unfold o8; rw [hf]
   rw [hg] at hq
   exact hq
 | some ss =>
   have hg:o8 x ps=(decide (ps.length=ss.length) && (List.zipWith iD ss ps).all id):=by unfold o8; rw [hf]
   rw [hg] at hq
   have Z6:=Aj x ss hf
   have el:(((T.str x :: ps).length:Nat):Int)=(ps.length:Int)+1:=by rw [Jz]; omega
   have Wv:(((ss.map fun s=>T.ob (fo s)).length:Nat):Int)=(ss.length:Int):=by rw [bZ]
   refine B7 (fun h=>?_) (fun h=>?_)
   · have h':(!decide (((T.str x :: ps).length:Int)=((ss.map fun s=>T.ob (fo s)).length:Int)+1))=true:=h
     have h2:=of_decide_eq_false (nt h')
     rw [el,Wv] at h2
     rw [decide_eq_false (by omega),Ie] at hq
     exact hq
   · have h':¬ (!decide (((T.str x :: ps).length:Int)=((ss.map fun s=>T.ob (fo s)).length:Int)+1))=true:=h
     have h2:=of_decide_eq_true (nf h')
     rw [el,Wv] at h2
     rw [decide_eq_true (by omega),zA] at hq
     have Uu:¬ (HT.cp (T.str x :: ps).length 0 (some 1)=0∧HT.cp (T.str x :: ps).length (T.str x :: ps).length none=(T.str x :: ps).length):=by
      rintro ⟨z,_⟩
      have:=HT.ky (T.str x :: ps).length 0 1
      rw [show ((1:Nat):Int)=1 from rfl,z] at this
      simp at this
     refine ⟨rfl,Uu,?_⟩
     rw [Ut]
     refine ⟨?_,rE (b:=iD) (fun s _ p hp r hr=>?_) ⟨_,vj _,hq⟩⟩
     · show (oQ (ss.map fun s=>T.ob (fo s)) ps).length≤sizeLine
       unfold oQ
       rw [List.length_zipWith]
       exact j7 (by omega)
     · exact ⟨rfl,rfl,Us s,⟨s,rfl,rfl⟩,rfl,Dh (q:=fun x=>r x.t) (hP p hp) hr⟩
end
end fB
namespace Gen
open PySem L2 VT
open wH (bx ET bV)
theorem y7 (n:Int):ET (gn n)=true:=by
 have h0:0≤n % 26:=lp n (by decide)
 have h1:n % 26 < 26:=mX n (by decide)
 have h:∀ j < 26,ET (bx.cps.toList.getD j 0)=true:=by decide +kernel
 exact h _ (by omega)
theorem Dq {a b:Int} (h:gn a=gn b):a % 26=b % 26:=by
 have a0:0≤a % 26:=lp a (by decide)
 have a1:a % 26 < 26:=mX a (by decide)
 have b0:0≤b % 26:=lp b (by decide)
 have b1:b % 26 < 26:=mX b (by decide)
 have k:∀ i < 26,∀ j < 26,bx.cps.toList.getD i 0=bx.cps.toList.getD j 0→i=j:=by decide +kernel
 have:=k (a % 26).toNat (by omega) (b % 26).toNat (by omega) h
 omega
theorem Am {c:Int} {k k' n:Nat} (hn:Ab c < n) (hk:k < 26) (O9:k' < 26) (h:bQ c k n=bQ c k' n):k=k':=by
 have h2:((List.range n).map fun j=>gn (sT c k j))=((List.range n).map fun j=>gn (sT c k' j)):=by
  have:=congrArg (fun y:Str=>y.cps.toList) h
  exact this
 have h3:=congrArg (fun l:List Nat=>l[Ab c]?) h2
 simp only [ly,List.getElem?_range hn,Option.map_some,Option.some.injEq] at h3
 have h4:=Dq h3
 unfold sT at h4
 rw [if_pos rfl,if_pos rfl] at h4
 omega
theorem pf {c:Int} {k n:Nat} (h1:1≤n) (h8:n≤8):bV (bQ c k n)=true:=by
 unfold bV
 rw [eF,decide_eq_true (by omega),decide_eq_true (by omega),zA,zA]
 show ((List.range n).map fun j=>gn (sT c k j)).all ET=true
 rw [List.all_map]
 exact zx.mpr fun j _=>y7 _
theorem Dr {x:Str} {n:Int} (h:bV x=true) (hl:x.length≤7):bV (x ++ ⟨#[gn n]⟩)=true:=by
 have hx:=wH.sx h
 have el:(x ++ (⟨#[gn n]⟩:Str)).length=x.length+1:=by
  show (x.cps ++ #[gn n]).size=_
  simp [Str.length]
 unfold bV
 rw [el,decide_eq_true (by omega),decide_eq_true (by omega),zA,zA]
 show (x.cps ++ #[gn n]).toList.all ET=true
 simp only [Array.toList_append,List.all_append,hx,zA]
 simp [y7]
theorem GX (x:Str) (n:Int):(x ++ (⟨#[gn n]⟩:Str)).length=x.length+1:=by
 show (x.cps ++ #[gn n]).size=_
 simp [Str.length]
theorem An {c:Int} {m:Nat} {y:Str} (h:y∈cO c m):(∃ k < m,y=bQ c k (jF c))∨y=bQ c 0 (jF c) ++ ⟨#[gn (qD c / 147)]⟩:=by
 have hz:∀ {y},y∈((List.range m).map fun k=>bQ c k (jF c))→∃ k < m,y=bQ c k (jF c):=fun h=>by
  obtain ⟨k,hk,rfl⟩:=yr.mp h
  exact ⟨k,zy.mp hk,rfl⟩
 unfold cO at h
 split at h
 · rcases Nn h with h | h
   · exact .inl (hz h)
   · exact .inr h
 · exact .inl (hz h)
theorem xu {c:Int} {m:Nat}:∀ y∈cO c m,bV y=true:=by
 intro y hy
 have hs:=oW c
 rcases An hy with ⟨k,_,rfl⟩ | rfl
 · exact pf (by omega) (by omega)
 · exact Dr (pf (by omega) (by omega)) (by rw [eF]; omega)
theorem vm {c:Int} {m:Nat} (hm:m≤26):(cO c m).Nodup:=by
 have hs:=oW c
 have ha:=Pd c
 have base:((List.range m).map fun k=>bQ c k (jF c)).Nodup:=by
  rw [List.Nodup,List.pairwise_map]
  refine List.Pairwise.imp_of_mem ?_ (List.nodup_range (n:=m))
  intro a b Yg Uv qb e
  exact qb (Am ha (by have:=zy.mp Yg; omega) (by have:=zy.mp Uv; omega) e)
 unfold cO
 split
 · generalize hl:((List.range m).map fun k=>bQ c k (jF c))=l at base
   have hv:bQ c 0 (jF c) ++ (⟨#[gn (qD c / 147)]⟩:Str)∉l:=by
    intro z
    rw [← hl] at z
    obtain ⟨k,_,e⟩:=yr.mp z
    have:=congrArg Str.length e
    rw [GX,eF,eF] at this
    omega
   rw [List.Nodup,R0]
   rw [List.Nodup,R0] at base
   intro i j hi hj FY
   rw [JA] at hi hj
   have b:=base i j hi hj FY
   rw [List.getElem_set,List.getElem_set]
   split
   · split
     · omega
     · intro z
       exact hv (by rw [z]; exact BI _)
   · split
     · intro z
       exact hv (by rw [← z]; exact BI _)
     · exact b
 · exact base
def Ds (ys:List Str):Rw→Prop
 | .df f ps=>f∈ys∧ps.length≤2∧ps.Nodup∧∀ p∈ps,p∈ys
 | .give a=>cy ys a
 | .put x a=>x∈ys∧cy ys a
 | .C3 x a op b=>x∈ys∧cy ys a∧op∈reckon∧cy ys b
 | .new x=>x∈ys
 | .get x r k=>x∈ys∧r∈ys∧Ad ys k
 | .set r k a=>r∈ys∧Ad ys k∧cy ys a
 | .call x f as=>x∈ys∧f∈ys∧as.length≤2∧∀ a∈as,cy ys a
 | .fail w=>w∈ys
 | .LH a=>cy ys a
 | .Ac a=>cy ys a
 | _=>True
theorem Dt {l:List Str} (nd:l.Nodup) {i j:Nat} (hi:i < l.length) (hj:j < l.length) (e:l[i]=l[j]):i=j:=by
 rw [List.Nodup,R0] at nd
 rcases Nat.lt_trichotomy i j with h | h | h
 · exact absurd e (nd i j hi hj h)
 · exact h
 · exact absurd e.symm (nd j i hj hi h)
theorem Ao {ys:List Str} (hl:ys.length=6) (nd:ys.Nodup) {a:Int} {r:Nat} (hr:r≤2):((List.range r).map fun j=>ys.getD ((a+((j:Nat):Int)) % 4).toNat Str.empty).Nodup∧∀ p∈((List.range r).map fun j=>ys.getD ((a+((j:Nat):Int)) % 4).toNat Str.empty),p∈ys:=by
 have hm:∀ j:Nat,((a+(j:Int)) % 4).toNat < ys.length:=fun j=>by
  have h0:0≤(a+(j:Int)) % 4:=lp _ (by decide)
  have h1:(a+(j:Int)) % 4 < 4:=mX _ (by decide)
  omega
 have hg:∀ j:Nat,ys.getD ((a+(j:Int)) % 4).toNat Str.empty=ys[((a+(j:Int)) % 4).toNat]'(hm j):=fun j=>by
  rw [List.getD,kg (hm j)]; rfl
 refine ⟨?_,?_⟩
 · rw [List.Nodup,List.pairwise_map]
   refine List.Pairwise.imp_of_mem ?_ (List.nodup_range (n:=r))
   intro i j hi hj qb e
   rw [hg,hg] at e
   have:=Dt nd _ _ e
   have BD:=zy.mp hi
   have OK:=zy.mp hj
   have a0:0≤(a+(i:Int)) % 4:=lp _ (by decide)
   have b0:0≤(a+(j:Int)) % 4:=lp _ (by decide)
   omega
 · intro p hp
   obtain ⟨j,_,rfl⟩:=yr.mp hp
   rw [hg]
   exact BI _
theorem Ap {ys:List Str} {pl:Plan} (hp:∀ f ps,(f,ps)∈pl→f∈ys∧ps.length≤2) {r:Rw} (h:iX ys pl r):Ds ys r:=by
 cases r <;> first
  | exact h
  | exact h.elim
  | (obtain ⟨h1,⟨ps,h2,h3⟩,h4⟩:=h
     exact ⟨h1,(hp _ _ h2).1,by rw [h3]; exact (hp _ _ h2).2,h4⟩)
theorem LX {ys:List Str} {pl:Plan} (hp:∀ f ps,(f,ps)∈pl→f∈ys∧ps.length≤2) {bG new cZ} (h:lZ ys pl bG new cZ):∀ r∈new,Ds ys r:=by
 rcases h with ⟨o,ho,rfl,_⟩ | ⟨o,ho,rfl,_⟩ | ⟨y,hy,rfl,_⟩ | ⟨s0,_,rfl,_⟩ | ⟨s0,x,_,rfl,_⟩ | ⟨r,hr,rfl,_⟩ <;> intro r' BG
 · simp only [dD,d8,or_false] at BG; subst BG; exact ho
 · simp only [dD,d8,or_false] at BG; subst BG; exact ho
 · simp only [dD,d8,or_false] at BG
   rcases BG with rfl | rfl
   · exact hy
   · exact ⟨hy,hy,by simp [reckon],by decide,by decide⟩
 · simp only [dD,d8,or_false] at BG; subst BG; trivial
 · simp only [dD,d8,or_false] at BG; subst BG; trivial
 · simp only [dD,d8,or_false] at BG; subst BG; exact Ap hp hr
theorem GY {ys:List Str} {pl:Plan} (hp:∀ f ps,(f,ps)∈pl→f∈ys∧ps.length≤2) {bG body} (h:Body ys pl bG body):∀ r∈body,Ds ys r:=by
 induction h with
 | nil=>intro r hr; cases hr
 | step _ h2 ih =>
   intro r hr
   rcases iw.mp hr with hr | hr
   · exact ih r hr
   · exact LX hp h2 r hr
theorem vn {ys:List Str} {pl:Plan} (hl:ys.length=6) (hP:sU ys pl):∀ f ps,(f,ps)∈pl→f∈ys∧ps.length≤2:=by
 intro f ps h
 obtain ⟨k,hk⟩:=List.getElem?_of_mem h
 obtain ⟨h1,a,r,hr,rfl⟩:=hP k f ps hk
 exact ⟨mW h1,by rw [bZ,EJ]; exact hr⟩
theorem LY {ys:List Str} {pl:Plan} (hl:ys.length=6) (nd:ys.Nodup) (hP:sU ys pl) {n:Nat} {rs:List Rw} (h:Pre ys pl n rs):∀ r∈rs,Ds ys r:=by
 have hp:=vn hl hP
 induction h with
 | zero=>intro r hr; cases hr
 | @succ k rs f ps bG body o sk _ hk hb ho hs ih =>
   intro r hr
   rcases iw.mp hr with hr | hr
   · exact ih r hr
   · rcases List.mem_cons.mp hr with rfl | hr
     · obtain ⟨h1,a,n,hn,rfl⟩:=hP k f ps hk
       have:=Ao hl nd (a:=a) hn
       exact ⟨mW h1,by rw [bZ,EJ]; exact hn,this.1,this.2⟩
     · rcases iw.mp hr with hr | hr
       · exact GY (fun f ps h=>hp f ps (QX h)) hb r hr
       · rcases iw.mp hr with hr | hr
         · rw [(List.mem_replicate.mp hr).2]; trivial
         · rcases dD.mp hr with rfl | hr
           · exact ho
           · rcases hs with rfl | rfl
             · cases hr
             · simp only [dD,d8,or_false] at hr; subst hr; trivial
end Gen
deriving instance DecidableEq for fB.So
namespace fB
open PySem L2 VT Gen wH
theorem vo {ys:List Str} (nd:ys.Nodup):∀ n,n≤ys.length→met (fun i=>ys.getD i Str.empty) n=ys.take n
 | 0,_=>rfl
 | n+1,h=>by
   have hl:n < ys.length:=by omega
   have ih:=vo nd n (by omega)
   have e:ys.getD n Str.empty=ys[n]:=by rw [List.getD,kg hl]; rfl
   have hn:ys[n]∉ys.take n:=by
    intro z
    obtain ⟨i,hi,he⟩:=List.mem_iff_getElem.mp z
    rw [List.getElem_take] at he
    rw [MX] at hi
    have:=Dt nd (by omega) hl he
    omega
   simp only [met,Na,ih,e]
   rw [if_neg (by simpa using hn),List.take_succ_eq_append_getElem hl]
theorem xv {ys:List Str} (nd:ys.Nodup):once ys=ys:=by
 unfold once
 rw [vo nd _ (dX _),Q6]
theorem kT {x:Str} (h:bV x=true):x.length≤8:=by
 unfold bV at h
 simp only [iE,decide_eq_true_eq] at h
 omega
section
variable {ys:List Str}
theorem cS (hn:∀ y∈ys,bV y=true) {o:kj} (h:cy ys o):gT (lu o)=true∧qG (lu o):=by
 cases o with
 | nm x =>
   have:=hn x h
   exact ⟨by show (bV x || false)=true; rw [this]; rfl,.inl ⟨x,rfl,by have:=kT this; omega⟩⟩
 | nu i =>
   obtain ⟨h1,h2⟩:=h
   exact ⟨by show (false || (decide (-1000000000000000000000000000000≤i) && decide (i < 1000000000000000000000000000000)))=true; rw [decide_eq_true h1,decide_eq_true h2]; rfl,.inr ⟨i,rfl⟩⟩
theorem bY (hn:∀ y∈ys,bV y=true) {x:Str} (h:x∈ys):dZ (.str x)=true∧qG (.str x):=⟨hn x h,.inl ⟨x,rfl,by have:=kT (hn x h); omega⟩⟩
theorem vp (hn:∀ y∈ys,bV y=true) {k:Ky} (h:Ad ys k):Dd (GJ k)=true∧qG (GJ k):=by
 cases k with
 | fld x =>
   have hx:=hn x h
   exact ⟨by show (su _ || _)=true; rw [zS hx]; rfl,.inl ⟨_,rfl,by rw [FW]; have:=kT hx; omega⟩⟩
 | op o =>
   have:=cS hn (o:=o) h
   exact ⟨by show (_ || gT (lu o))=true; rw [this.1,Bool.or_true],this.2⟩
theorem Du {op:Str} (h:op∈reckon):LO (.str op)=true∧qG (.str op):=by
 simp only [reckon,dD,d8,or_false] at h
 rcases h with rfl | rfl | rfl | rfl | rfl | rfl | rfl <;> exact ⟨by decide +kernel,.inl ⟨_,rfl,by decide +kernel⟩⟩
theorem ph:∀ ps:List Str,strsOf (ps.map .str)=ps
 | []=>rfl
 | p :: ps=>by
   show p :: strsOf (ps.map .str)=_
   rw [ph ps]
theorem pj (hn:∀ y∈ys,bV y=true) {ps:List Str} (h2:ps.length≤4) (nd:ps.Nodup) (hp:∀ p∈ps,p∈ys):LQ (.tup (ps.map .str))=true∧Part (.tup (ps.map .str)):=by
 have e1:(ps.map T.str).all dZ=true:=zx.mpr fun t ht=>by
  obtain ⟨x,hx,rfl⟩:=yr.mp ht
  exact (bY hn (hp x hx)).1
 have e2:(ps.map T.str).all gT=true:=zx.mpr fun t ht=>by
  have:=zx.mp e1 t ht
  show (dZ t || _)=true
  rw [this,Bool.true_or]
 refine ⟨?_,.inr ⟨_,rfl,by rw [bZ]; omega,fun u hu=>?_⟩⟩
 · show ((decide _ && _) && (_ && decide _))=true
   rw [e1,e2,ph,xv nd,bZ,decide_eq_true (by omega),decide_eq_true rfl]
   rfl
 · obtain ⟨x,hx,rfl⟩:=yr.mp hu
   exact (bY hn (hp x hx)).2
theorem pk (hn:∀ y∈ys,bV y=true) {as:List kj} (h2:as.length≤4) (ha:∀ a∈as,cy ys a):LP (.tup (as.map lu))=true∧Part (.tup (as.map lu)):=by
 refine ⟨?_,.inr ⟨_,rfl,by rw [bZ]; omega,fun u hu=>?_⟩⟩
 · show (decide _ && _)=true
   rw [decide_eq_true (by rw [bZ]; omega),zA]
   refine zx.mpr fun t ht=>?_
   obtain ⟨x,hx,rfl⟩:=yr.mp ht
   exact (cS hn (ha x hx)).1
 · obtain ⟨x,hx,rfl⟩:=yr.mp hu
   exact (cS hn (ha x hx)).2
def gr (t:T):Prop:=∃ (x:Str) (ps:List T),t = .tup (.str x :: ps)∧ps.length≤4∧(∀ p∈ps,Part p)∧o8 x ps=true
theorem cm {x:Str} {ss:List So} {ps:List T} (hf:kR mT x=some ss) (hl:ps.length=ss.length) (h4:ps.length≤4) (hp:∀ p∈ps,Part p) (hz:(List.zipWith iD ss ps).all id=true):gr (.tup (.str x :: ps)):=by
 refine ⟨x,ps,rfl,h4,hp,?_⟩
 unfold o8
 rw [hf]
 show (decide _ && _)=true
 rw [decide_eq_true hl,hz]
 rfl
theorem kU (hn:∀ y∈ys,bV y=true) {r:Rw} (h:Ds ys r):gr (aH r):=by
 cases r with
 | df f ps =>
   obtain ⟨h1,h2,h3,h4⟩:=h
   have a:=bY hn h1
   have b:=pj hn (by omega) h3 h4
   refine cm (ss:=[.nm,.par]) (by decide +kernel) rfl (by simp) ?_ ?_
   · simp only [zw,d8,false_implies,implies_true,and_true]; exact ⟨.inl a.2,b.2⟩
   · simp only [zt,zu,uo,zB,iD,a.1,b.1]; rfl
 | give o =>
   have a:=cS hn h
   refine cm (ss:=[.op]) (by decide +kernel) rfl (by simp) ?_ ?_
   · simp only [zw,d8,false_implies,implies_true,and_true]; exact .inl a.2
   · simp only [zt,zu,uo,zB,iD,a.1]; rfl
 | LH o =>
   have a:=cS hn h
   refine cm (ss:=[.op]) (by decide +kernel) rfl (by simp) ?_ ?_
   · simp only [zw,d8,false_implies,implies_true,and_true]; exact .inl a.2
   · simp only [zt,zu,uo,zB,iD,a.1]; rfl
 | Ac o =>
   have a:=cS hn h
   refine cm (ss:=[.op]) (by decide +kernel) rfl (by simp) ?_ ?_
   · simp only [zw,d8,false_implies,implies_true,and_true]; exact .inl a.2
   · simp only [zt,zu,uo,zB,iD,a.1]; rfl
 | put x o =>
   have a:=bY hn h.1
   have b:=cS hn h.2
   refine cm (ss:=[.nm,.op]) (by decide +kernel) rfl (by simp) ?_ ?_
   · simp only [zw,d8,false_implies,implies_true,and_true]; exact ⟨.inl a.2,.inl b.2⟩
   · simp only [zt,zu,uo,zB,iD,a.1,b.1]; rfl
 | C3 x o op o2 =>
   have a:=bY hn h.1
   have b:=cS hn h.2.1
   have c:=Du h.2.2.1
   have d:=cS hn h.2.2.2
   refine cm (ss:=[.nm,.op,.rk,.op]) (by decide +kernel) rfl (by simp) ?_ ?_
   · simp only [zw,d8,false_implies,implies_true,and_true]; exact ⟨.inl a.2,.inl b.2,.inl c.2,.inl d.2⟩
   · simp only [zt,zu,uo,zB,iD,a.1,b.1,c.1,d.1]; rfl
 | new x =>
   have a:=bY hn h
   refine cm (ss:=[.nm]) (by decide +kernel) rfl (by simp) ?_ ?_
   · simp only [zw,d8,false_implies,implies_true,and_true]; exact .inl a.2
   · simp only [zt,zu,uo,zB,iD,a.1]; rfl
 | fail x =>
   have a:=bY hn h
   refine cm (ss:=[.nm]) (by decide +kernel) rfl (by simp) ?_ ?_
   · simp only [zw,d8,false_implies,implies_true,and_true]; exact .inl a.2
   · simp only [zt,zu,uo,zB,iD,a.1]; rfl
 | get x r k =>
   have a:=bY hn h.1
   have b:=bY hn h.2.1
   have c:=vp hn h.2.2
   refine cm (ss:=[.nm,.nm,.key]) (by decide +kernel) rfl (by simp) ?_ ?_
   · simp only [zw,d8,false_implies,implies_true,and_true]; exact ⟨.inl a.2,.inl b.2,.inl c.2⟩
   · simp only [zt,zu,uo,zB,iD,a.1,b.1,c.1]; rfl
 | set r k o =>
   have a:=bY hn h.1
   have b:=vp hn h.2.1
   have c:=cS hn h.2.2
   refine cm (ss:=[.nm,.key,.op]) (by decide +kernel) rfl (by simp) ?_ ?_
   · simp only [zw,d8,false_implies,implies_true,and_true]; exact ⟨.inl a.2,.inl b.2,.inl c.2⟩
   · simp only [zt,zu,uo,zB,iD,a.1,b.1,c.1]; rfl
 | call x f as =>
   have a:=bY hn h.1
   have b:=bY hn h.2.1
   have c:=pk hn (mD h.2.2.1 (by decide)) h.2.2.2
   refine cm (ss:=[.nm,.nm,.ops]) (by decide +kernel) rfl (by simp) ?_ ?_
   · simp only [zw,d8,false_implies,implies_true,and_true]; exact ⟨.inl a.2,.inl b.2,c.2⟩
   · simp only [zt,zu,uo,zB,iD,a.1,b.1,c.1]; rfl
 | _=>exact cm (ss:=[]) (by decide +kernel) rfl (by decide) (by simp) rfl
end
end fB
namespace Gen
open PySem L2 VT
def wd:Rw→Str
 | .df _ _=>"def"
 | .give _=>"give"
 | .put _ _=>"put"
 | .C3 _ _ _ _=>"do"
 | .new _=>"new"
 | .get _ _ _=>"get"
 | .set _ _ _=>"set"
 | .call _ _ _=>"call"
 | .fail _=>"fail"
 | .LH _=>"if"
 | .RD=>"else"
 | .Ac _=>"while"
 | .fin=>"end"
 | .skip=>"skip"
def cT (st:List Str) (x:Str):Bool:=match st.getLast? with
 | none=>sN (.str x) [.str "def",.str "skip"]
 | some l=>if x="give" then decide (l="def") else if x="else" then decide (l="if") else if x="end" then !decide (l="def") else !decide (x="def")
def ir (st:List Str) (x:Str):List Str :=
 if x="def"∨x="if"∨x="while" then st ++ [x] else if x="give"∨x="end" then st.dropLast else if x="else" then st.dropLast ++ [("else" : Str)] else st
theorem kW (x:Str):∀ l:List Str,sN (.str x) (l.map .str)=decide (x∈l)
 | []=>by simp [sN]
 | y :: l=>by
   rw [iF]
   show (eqT (.str y) (.str x) || sN (.str x) (l.map .str))=_
   rw [kW x l]
   show (decide (y=x) || decide (x∈l))=_
   rw [Ib]
   simp only [Bool.or_eq_true,decide_eq_true_eq,dD]
   constructor
   · rintro (h | h)
     · exact .inl h.symm
     · exact .inr h
   · rintro (h | h)
     · exact .inl h.symm
     · exact .inr h
theorem s_ (r:Rw):∃ l,aH r = .tup (.str (wd r) :: l):=by cases r <;> exact ⟨_,rfl⟩
theorem eG {α:Type} {f:α→T} {xs:List α} {h:FG} {g:FS} {d:ID} {ρ:En} (Pv:Nat→En→Prop) (h0:Pv 0 ρ) (hs:∀ (i:Nat) x ρ',xs[i]?=some x→Pv i ρ'→h (.tup [.int (i:Int),f x]) ρ' fun ρ2=>g { nx:=Pv (i+1),ct:=Pv (i+1),bk:=d.nx,rt:=d.rt } ρ2)
 (hd:∀ ρ',Pv xs.length ρ'→d.nx ρ'):uM (mJ (xs.map f)) h g d ρ:=⟨Pv,h0,fun i t ρ' e p=>by
   unfold mJ at e
   rw [List.getElem?_mapIdx,ly] at e
   cases q:xs[i]? with
   | none=>rw [q] at e; cases e
   | some x=>rw [q] at e; cases e; exact hs i x ρ' q p,fun ρ' p=>hd ρ' (by unfold mJ at p; rw [List.length_mapIdx,bZ] at p; exact p)⟩
def Aq (o:Option (List Str)) (r:Rw):Option (List Str):=o.bind fun st=>if cT st (wd r)=true then some (ir st (wd r)) else none
def jG (o:Option (List Str)) (rs:List Rw):Option (List Str):=rs.foldl Aq o
theorem jr (o:Option (List Str)) (a b:List Rw):jG o (a ++ b)=jG (jG o a) b:=List.foldl_append
theorem pq (rs:List Rw):jG none rs=none:=by
 induction rs with
 | nil=>rfl
 | cons r rs ih=>exact ih
theorem rG {st:List Str} {r:Rw} (h:cT st (wd r)=true):Aq (some st) r=some (ir st (wd r)):=by
 show (if cT st (wd r)=true then _ else _)=_
 rw [if_pos h]
theorem cV {st:List Str} {r:Rw} (h:cT st (wd r)=true):jG (some st) [r]=some (ir st (wd r)):=rG h
theorem Dv {rs:List Rw} {st:List Str} (h:jG (some []) rs=some st) (i:Nat) {r:Rw} (hr:rs[i]?=some r) :
  ∃ s,jG (some []) (rs.take i)=some s∧cT s (wd r)=true∧jG (some []) (rs.take (i+1))=some (ir s (wd r)):=by
 have hi:=(fH.mp hr).1
 have e:rs=rs.take i ++ (r :: rs.drop (i+1)):=by
  have hg:=(fH.mp hr).2
  rw [← hg,List.getElem_cons_drop,List.take_append_drop]
 have e2:rs.take (i+1)=rs.take i ++ [r]:=by
  have hg:=(fH.mp hr).2
  rw [← hg,List.take_append_getElem]
 rw [e,jr] at h
 cases hs:jG (some []) (rs.take i) with
 | none =>
   rw [hs,pq] at h
   cases h
 | some s =>
   rw [hs] at h
   have h':jG (Aq (some s) r) (rs.drop (i+1))=some st:=h
   cases hm:cT s (wd r) with
   | false =>
     have:Aq (some s) r=none:=by show (if cT s (wd r)=true then _ else _)=_; rw [hm]; rfl
     rw [this,pq] at h'
     cases h'
   | true=>exact ⟨s,rfl,hm,by rw [e2,jr,hs]; exact cV hm⟩
abbrev me:Str:="def"
def Hd (x:Str):Prop:=x="if"∨x="while"∨x="else"
theorem Hd.ne {x:Str} (h:Hd x):x≠"def":=by rcases h with rfl | rfl | rfl <;> decide +kernel
theorem rH {ys:List Str} {pl:Plan} {r:Rw} (h:iX ys pl r):∀ st,st≠[]→cT st (wd r)=true∧ir st (wd r)=st:=by
 intro st BQ
 obtain ⟨l,hl⟩:∃ l,st.getLast?=some l:=by
  cases e:st.getLast? with
  | none=>rw [List.getLast?_eq_none_iff] at e; exact absurd e BQ
  | some l=>exact ⟨l,rfl⟩
 have k:∀ x:Str,(x="put"∨x="do"∨x="new"∨x="get"∨x="set"∨x="call"∨x="fail"∨x="skip")→cT st x=true∧ir st x=st:=by
  intro x hx
  unfold cT ir
  rw [hl]
  rcases hx with rfl | rfl | rfl | rfl | rfl | rfl | rfl | rfl <;> exact ⟨(by show (if _ then _ else _)=true; rw [if_neg (by decide +kernel),if_neg (by decide +kernel),if_neg (by decide +kernel)]; decide +kernel),(by rw [if_neg (by decide +kernel),if_neg (by decide +kernel),if_neg (by decide +kernel)])⟩
 cases r <;> first
  | exact h.elim
  | exact k _ (by simp [wd])
theorem LZ (st:List Str):ir st "if" = st ++ [("if" : Str)]:=by unfold ir; rw [if_pos (.inr (.inl rfl))]
theorem rJ (st:List Str):ir st "while" = st ++ [("while" : Str)]:=by unfold ir; rw [if_pos (.inr (.inr rfl))]
theorem y8 (st:List Str):ir st "def" = st ++ [me]:=by unfold ir; rw [if_pos (.inl rfl)]
theorem y9 (st:List Str):ir st "end" = st.dropLast:=by unfold ir; rw [if_neg (by decide +kernel),if_pos (by decide +kernel)]
theorem Dw (st:List Str):ir st "give" = st.dropLast:=by unfold ir; rw [if_neg (by decide +kernel),if_pos (by decide +kernel)]
theorem Dx (st:List Str):ir st "else" = st.dropLast ++ [("else" : Str)]:=by unfold ir; rw [if_neg (by decide +kernel),if_neg (by decide +kernel),if_pos rfl]
theorem tf (st:List Str) (l x:Str) (hx:x="if"∨x="while"):cT (st ++ [l]) x=true:=by
 unfold cT
 rw [MU]
 rcases hx with rfl | rfl <;> (show (if _ then _ else _)=true; rw [if_neg (by decide +kernel),if_neg (by decide +kernel),if_neg (by decide +kernel)]; decide +kernel)
theorem Ar (st:List Str):cT (st ++ [("if" : Str)]) "else" = true:=by
 unfold cT
 rw [MU]
 show (if _ then _ else _)=true
 rw [if_neg (by decide +kernel),if_pos rfl]
 decide +kernel
theorem vq (st:List Str) {l:Str} (h:l≠"def"):cT (st ++ [l]) "end" = true:=by
 unfold cT
 rw [MU]
 show (if _ then _ else _)=true
 rw [if_neg (by decide +kernel),if_neg (by decide +kernel),if_pos rfl,decide_eq_false h]
 rfl
theorem As (st:List Str):cT (st ++ [me]) "give" = true:=by
 unfold cT
 rw [MU]
 show (if _ then _ else _)=true
 rw [if_pos rfl]
 decide +kernel
theorem y_ {st:List Str} (h:st≠[]):∃ s l,st=s ++ [l]:=⟨st.dropLast,st.getLast h,(List.dropLast_concat_getLast h).symm⟩
theorem GZ {ys:List Str} {pl:Plan} {bG new cZ} (h:lZ ys pl bG new cZ) (hs:∀ x∈bG,Hd x) :
  jG (some (me :: bG)) new=some (me :: cZ)∧∀ x∈cZ,Hd x:=by
 have hd:∀ st:List Str,∃ s l,me :: st=s ++ [l]:=fun st=>y_ (by simp)
 rcases h with ⟨o,_,rfl,rfl⟩ | ⟨o,_,rfl,rfl⟩ | ⟨y,_,rfl,rfl⟩ | ⟨s0,rfl,rfl,rfl⟩ | ⟨s0,x,es,rfl,e'⟩ | ⟨r,hr,rfl,e'⟩
 · obtain ⟨s,l,e⟩:=hd bG
   refine ⟨?_,?_⟩
   · rw [cV (st:=me :: bG) (r:=.LH o) (by rw [e]; exact tf s l _ (.inl rfl))]
     show some (ir _ "if")=_
     rw [LZ]; rfl
   · intro x hx
     rcases iw.mp hx with hx | hx
     · exact hs x hx
     · simp only [dD,d8,or_false] at hx; exact .inl hx
 · obtain ⟨s,l,e⟩:=hd bG
   refine ⟨?_,?_⟩
   · rw [cV (st:=me :: bG) (r:=.Ac o) (by rw [e]; exact tf s l _ (.inr rfl))]
     show some (ir _ "while")=_
     rw [rJ]; rfl
   · intro x hx
     rcases iw.mp hx with hx | hx
     · exact hs x hx
     · simp only [dD,d8,or_false] at hx; exact .inr (.inl hx)
 · obtain ⟨s,l,e⟩:=hd bG
   refine ⟨?_,?_⟩
   · have h1:jG (some (me :: bG)) [Rw.Ac (.nm y)]=some ((me :: bG) ++ [("while" : Str)]):=by
      rw [cV (st:=me :: bG) (r:=.Ac (.nm y)) (by rw [e]; exact tf s l _ (.inr rfl))]
      show some (ir _ "while")=_
      rw [rJ]
     have h2:=rH (ys:=[y]) (pl:=[]) (r:=.C3 y (.nm y) "minus" (.nu 1)) ⟨by simp,by simp [cy],by simp [reckon],by decide,by decide⟩ ((me :: bG) ++ [("while" : Str)]) (by simp)
     show jG (jG (some (me :: bG)) [Rw.Ac (.nm y)]) [Rw.C3 y (.nm y) "minus" (.nu 1)]=_
     rw [h1,cV h2.1,h2.2]; rfl
   · intro x hx
     rcases iw.mp hx with hx | hx
     · exact hs x hx
     · simp only [dD,d8,or_false] at hx; exact .inr (.inl hx)
 · refine ⟨?_,?_⟩
   · have e:me :: (s0 ++ [("if" : Str)])=(me :: s0) ++ [("if" : Str)]:=rfl
     rw [e,cV (Ar _)]
     show some (ir _ "else")=_
     rw [Dx,Jv]; rfl
   · intro x hx
     rcases iw.mp hx with hx | hx
     · exact hs x (ll _ hx)
     · simp only [dD,d8,or_false] at hx; exact .inr (.inr hx)
 · subst es
   subst e'
   refine ⟨?_,fun y hy=>hs y (ll _ hy)⟩
   have e:me :: (cZ ++ [x])=(me :: cZ) ++ [x]:=rfl
   rw [e,cV (vq _ (hs x (by simp)).ne)]
   show some (ir _ "end")=_
   rw [y9,Jv]
 · subst e'
   have:=rH hr (me :: cZ) (by simp)
   refine ⟨?_,hs⟩
   rw [cV this.1,this.2]
theorem Dy {ys:List Str} {pl:Plan} {bG body} (h:Body ys pl bG body):jG (some [me]) body=some (me :: bG)∧∀ x∈bG,Hd x:=by
 induction h with
 | nil=>exact ⟨rfl,fun x hx=>nomatch hx⟩
 | step _ h2 ih =>
   have:=GZ h2 ih.2
   exact ⟨by rw [jr,ih.1]; exact this.1,this.2⟩
theorem vt:∀ (n:Nat) (bG:List Str),bG.length=n→(∀ x∈bG,Hd x)→jG (some (me :: bG)) (List.replicate n .fin)=some [me]
 | 0,bG,hl,_=>by
   rw [QR] at hl
   subst hl
   rfl
 | n+1,bG,hl,hs=>by
   obtain ⟨s,l,rfl⟩:=y_ (st:=bG) (by intro z; subst z; cases hl)
   rw [Q0]
   show jG (jG (some ((me :: s) ++ [l])) [Rw.fin]) (List.replicate n .fin)=_
   rw [cV (vq _ (hs l (by simp)).ne)]
   show jG (some (ir _ "end")) _=_
   rw [y9,Jv]
   exact vt n s (by simpa using hl) fun x hx=>hs x (ll _ hx)
theorem G0 {ys:List Str} {pl:Plan} {n:Nat} {rs:List Rw} (h:Pre ys pl n rs):jG (some []) rs=some []:=by
 induction h with
 | zero=>rfl
 | @succ k rs f ps bG body o sk _ hk hb ho hs ih =>
   rw [jr,ih]
   show jG (jG (some []) [Rw.df f ps]) _=_
   rw [cV (by show cT [] "def" = true; decide +kernel)]
   show jG (some (ir [] "def")) _=_
   rw [y8,jr]
   have hB:=Dy hb
   show jG (jG (some [me]) body) _=_
   rw [hB.1,jr,vt _ bG rfl hB.2]
   show jG (jG (some ([] ++ [me])) [Rw.give o]) sk=_
   rw [cV (As [])]
   show jG (some (ir _ "give")) sk=_
   rw [Dw,Jv]
   rcases hs with rfl | rfl
   · rfl
   · rw [cV (by show cT [] "skip" = true; decide +kernel)]
     show some (ir [] "skip")=_
     rfl
def mf:List (Str×Nat)→Str→Option Nat
 | [],_=>none
 | (k,i) :: l,f=>if k=f then some i else mf l f
theorem nR (l m:List (Str×Nat)) (f:Str):mf (l ++ m) f=match mf l f with
  | some i=>some i
  | none=>mf m f:=by
 induction l with
 | nil=>rfl
 | cons p l ih =>
   obtain ⟨k,i⟩:=p
   simp only [List.cons_append,mf]
   by_cases h:k=f
   · rw [if_pos h,if_pos h]
   · rw [if_neg h,if_neg h]; exact ih
def IZ (l:List (Str×Nat)) (i:Nat):Rw→List (Str×Nat)
 | .df f _=>match mf l f with
   | some _=>l
   | none=>l ++ [(f,i)]
 | _=>l
def aY (rs:List Rw):Nat→List (Str×Nat)
 | 0=>[]
 | n+1=>match rs[n]? with
   | some r=>IZ (aY rs n) n r
   | none=>aY rs n
theorem gu {rs:List Rw} {f:Str} {j:Nat}:∀ n,mf (aY rs n) f=some j→j < n∧∃ ps,rs[j]?=some (.df f ps)
 | 0,h=>nomatch h
 | n+1,h=>by
   have old:mf (aY rs n) f=some j→j < n+1∧∃ ps,rs[j]?=some (.df f ps):=fun h=>by
    have:=gu n h
    exact ⟨by omega,this.2⟩
   simp only [aY] at h
   split at h
   · rename_i r hr
     cases r with
     | df g ps =>
       simp only [IZ] at h
       split at h
       · exact old h
       · rename_i hn
         rw [nR] at h
         split at h
         · rename_i i hi
           cases h
           exact old hi
         · simp only [mf] at h
           split at h
           · rename_i e
             cases h
             subst e
             exact ⟨by omega,ps,hr⟩
           · cases h
     | _=>exact old h
   · exact old h
theorem eI {rs:List Rw} {f:Str} {i:Nat} {ps:List Str} (hi:rs[i]?=some (.df f ps)):∀ n,i < n→∃ j,mf (aY rs n) f=some j
 | 0,h=>absurd h (by omega)
 | n+1,h=>by
   simp only [aY]
   by_cases e:i=n
   · subst e
     rw [hi]
     simp only [IZ]
     cases ha:mf (aY rs i) f with
     | some j=>exact ⟨j,ha⟩
     | none =>
       refine ⟨i,?_⟩
       simp only
       rw [nR,ha]
       simp only [mf,if_true]
   · obtain ⟨j,hj⟩:=eI hi n (by omega)
     split
     · rename_i r hr
       cases r with
       | df g qs =>
         simp only [IZ]
         split
         · exact ⟨j,hj⟩
         · rw [nR,hj]; exact ⟨j,rfl⟩
       | _=>exact ⟨j,hj⟩
     · exact ⟨j,hj⟩
structure tq (rs:List Rw):Prop where
 un:∀ (i i':Nat) (f:Str) (ps Uw:List Str),rs[i]?=some (Rw.df f ps)→rs[i']?=some (Rw.df f Uw)→i=i'
 ca:∀ (i:Nat) (x f:Str) (as:List kj),rs[i]?=some (Rw.call x f as)→∃ (j:Nat) (ps:List Str),i < j∧rs[j]?=some (Rw.df f ps)∧ps.length=as.length
theorem tq.first {rs:List Rw} (h:tq rs) {i:Nat} {f:Str} {ps:List Str} (hi:rs[i]?=some (.df f ps)):mf (aY rs rs.length) f=some i:=by
 obtain ⟨j,hj⟩:=eI hi rs.length (fH.mp hi).1
 obtain ⟨_,qs,hq⟩:=gu _ hj
 rw [hj,h.un j i f qs ps hq hi]
end Gen
namespace VT
open PySem PySem.Spec PyProof.Rows L2
section
variable {X:Cx}
end
section
variable {X:Cx} {Z:Zc} {a b:Expr} {fa fb:FE} {pos:Pos}
end
section
variable {X:Cx} {Z:Zc}
def Ux:FS:=fun _ _=>False
theorem j' {st:Stmt}:VS X Z st Ux:=.mk fun tm pins s σ H D I ⟨_,_,_,_,h,_⟩=>h.elim
theorem G1:BB X "dict.setdefault" (fun x xs H Q=>∃ (a:Addr) (aZ:List (Key×V)) (k:Key) (v:V),x = .ref a∧xs=[kV k,v]∧H a=some (.dK aZ)∧aZ.length < sizeLine ∧
  (∀ u,iC aZ k=some u→Q u H)∧(iC aZ k=none→Q v (upd H a (.dK (L2.putK aZ k v))))):=by
 intro pins s σ H x xs v us Q I rx rs h
 obtain ⟨a,aZ,k,y,rfl,rfl,ha,q9,q1,q2⟩:=h
 cases rx
 obtain ⟨u1,u2,rfl,Yh,Ww⟩:∃ u1 u2,us=[u1,u2]∧RelV (kV k) u1∧RelV y u2:=by
  cases rs with
  | cons r1 t=>cases t with
    | cons r2 t2=>cases t2; exact ⟨_,_,rfl,r1,r2⟩
 obtain ⟨z,hd,vs,rel,dd⟩:=O_ I.bC ha
 refine call_meetsIn PySem.F.slot_dict_setdefault dd.typeIs PySem.F.entry_dict_setdefault (PySem.F.args_dict_setdefault_3 _ _ _) (kt_meets_setdefault (bB X.prog X.w) a (uZ Yh) hd u2) ⟨vs,dd,by rw [← rel.length]; omega,fun v0 hv=>?_,fun hn h' IU hs=>?_⟩
 · have wW:=rel.val k
   rw [hv] at wW
   cases e:iC aZ k with
   | none=>rw [e] at wW; cases wW
   | some w0 =>
     rw [e] at wW
     have hr:RelV w0 v0:=wW
     exact ⟨w0,H,I.tok _,hr,q1 w0 e⟩
 · have wW:=rel.val k
   rw [hn] at wW
   cases e:iC aZ k with
   | some w0=>rw [e] at wW; cases wW
   | none =>
     have he:∃ q,h'.get? a=some q:=let ⟨q,_,_,hq,_⟩:=IU; ⟨q,hq⟩
     have hl:(L2.putK aZ k y).length≤sizeLine:=by have:=uY aZ k y; omega
     exact ⟨y,_,GD (t':=s.toks+1) I (by rw [ha]; exact True.intro) hs he (LA hl hd (rel.put k Ww) IU),Ww,q2 e⟩
end
section
variable {X:Cx} {Z:Zc} {e1 e2:Expr} {f1 f2:FE} {apos bg:Pos}
def I_ (n:Nat) (f1 f2:FE):FX:=fun ρ Q=>match ρ[n]? with
 | some (some (.dk ks ts,true))=>f1 ρ fun x=>f2 ρ fun y=>match Aa x with
   | some k=>ts.length < 16777216∧match fR ks ts k with
     | some t=>Q ρ (.vw t)
     | none=>Q (ρ.set n (some (.dk (ks ++ [k]) (ts ++ [y]),true))) (.vw y)
   | none=>False
 | _=>False
theorem G2 (n:Nat) {x:Str} {p:Pos} (h1:VE X Z e1 f1) (h2:VE X Z e2 f2)
  (hN:X.N[n]?=some x:=by rfl) (hv:rY X.env.scope x:=by first | exact Or.inl rfl | exact Or.inr (Or.inl rfl) | exact Or.inr (Or.inr rfl)) (hd:gg x:=by decide)
  (iB:ug x:=by decide) (eM:attributeBase (.Name x p) "setdefault" X.env (eval (.Name x p) X.env)=eval (.Name x p) X.env:=by rfl)
  (n9:((backTo bg (starEach [e1,e2] X.env)).all (fun x=>!x.1) && (backToKw bg (keywordEach [] X.env)).all (fun x=>x.1.isSome)
    && decide (([e1,e2]:List Expr).length+([]:List Keyword).length+(if ([]:List Keyword).isEmpty then 0 else 1) < 30))=true:=by rfl)
  (eO:(apos.endLine == bg.line)=true:=by rfl) (hs:starEach [e1,e2] X.env=(false,eval e1 X.env) :: starEach [e2] X.env:=by rfl) (uf:starEach [e2] X.env=(false,eval e2 X.env) :: starEach [] X.env:=by rfl)
  (eQ:(backTo bg (starEach [e2] X.env)).any (·.1)=false:=by rfl) :
  VX X Z (.Call (.Attribute (.Name x p) "setdefault" apos) [e1,e2] [] bg) (I_ n f1 f2):=.mk fun tm =>
 PE.weak (uy R7 PySem.F.slot_dict_setdefault PySem.F.type_dict_setdefault G1 (cW hN hv hd iB) (bw (h1 tm) (bw (h2 tm) cX uf) hs) eM n9 eO hs eQ) fun σ H Q ⟨ρ,O,q,I,hf,kk⟩=>by
  unfold I_ at hf
  split at hf
  · rename_i ks ts e0
    obtain ⟨l,g1,g2,xs,hl,g3,g4⟩:=I.root e0
    have ha:l∈av Z O:=ll _ (aN.mpr (mW g1))
    refine ⟨.ref l,g2,.inr (.inr (.inl ⟨rfl,.inl ⟨_,g3⟩⟩)),ρ,O,_,I,hf,fun t ht v H1 s1 a1=>⟨ρ,O,_,I.same s1,ht,fun y hy w H2 s2 a2=>?_⟩⟩
    split at hy
    · rename_i Nd ek
      obtain ⟨hlen,hy⟩:=hy
      have ev:v=kV Nd:=sR (.inl a1) ek
      subst ev
      have hz:(ks.zip xs).length < sizeLine:=by
       rw [sizeLine_eq,List.length_zip,hl,Nat.min_self,g4.length]
       omega
      have J:=(I.same s1).same s2
      have b4:=(g4.same s1).same s2
      refine ⟨l,ks.zip xs,Nd,w,rfl,rfl,s2 _ _ (s1 _ _ g3),hz,fun u hu=>?_,fun hn=>?_⟩
      · rw [eV] at hu
        cases eg:fR ks ts Nd with
        | none=>rw [(gR b4).2 eg] at hu; cases hu
        | some t0 =>
          rw [eg] at hy
          obtain ⟨v0,e1,e2⟩:=(gR b4).1 t0 eg
          rw [e1] at hu
          cases hu
          exact kk _ _ hy O _ _ ⟨J,e2⟩
      · rw [eV] at hn
        cases eg:fR ks ts Nd with
        | some t0 =>
          obtain ⟨v0,e1,e2⟩:=(gR b4).1 t0 eg
          rw [e1] at hn
          cases hn
        | none =>
          rw [eg] at hy
          have e1:L2.putK (ks.zip xs) Nd w=(ks ++ [Nd]).zip (xs ++ [w]):=by
           rw [CU _ (by rw [eV]; exact hn),List.zip_append hl]
           rfl
          rw [e1]
          refine kk _ _ hy O _ _ ⟨J.wrote e0 g1 ⟨xs ++ [w],by simp [hl],aT,?_⟩,a2.wrote ha (s2 _ _ (s1 _ _ g3)) rfl⟩
          exact (b4.append (aG.cons a2 aG.nil)).wrote ha (s2 _ _ (s1 _ _ g3)) rfl
    · exact hy.elim
  · exact hf.elim
end
end VT
namespace fB
open PySem L2 VT Gen wH
abbrev bU:Stmt:=top 31
abbrev gU:Stmt:=top 32
abbrev b5:Stmt:=top 33
abbrev i0:Stmt:=top 34
abbrev gv:Stmt:=top 35
abbrev cw:Stmt:=top 36
abbrev gW:Stmt:=top 37
abbrev dW:Stmt:=top 38
structure Au (w:World) (K:PySem.W.Frag) (mg:Str→Option Value):Prop where
 rK:∃ t,mg "MOST_ROWS" = some (.int 60 t)
 G3:∃ a,mg "OPENERS" = some (.ref a)∧∀ H,dF K H a [.str "def",.str "if",.str "while"]
 G4:∃ a,mg "CLOSERS" = some (.ref a)∧∀ H,dF K H a [.str "give",.str "end"]
 list:mg "list" = none
 len:mg "len" = none
 enumerate:mg "enumerate" = none
structure Acc (rs:List Rw):Prop where
 n:rs.length≤60
 g:∀ r∈rs,gr (aH r)
 b:jG (some []) rs=some []
 d:tq rs
def L0 (ts:List T) (q:Rt→Prop):Prop:=∃ (st:List Str) (x:Str),ts=[.lst (st.map .str),.str x]∧q (.vw (.bl (cT st x)))
def Uy:GT:=fun ts q=>∃ (st:List Str) (x:Str),ts=[.lst (st.map .str),.str x]∧st.length≤1000∧cT st x=true∧q [.lst ((ir st x).map .str)] (.vw .bu)
def xw (ts:List T) (q:Rt→Prop):Prop:=∃ rs:List Rw,ts=[.lst (rs.map aH)]∧(∀ r∈rs,gr (aH r))∧q (.vw .bu)
def i4 (ts:List T) (q:Rt→Prop):Prop:=∃ rs:List Rw,ts=[.lst (rs.map aH)]∧rs.length≤60∧jG (some []) rs=some []∧q (.vw .bu)
def G5 (l:List (Str×Nat)):T:=.dk (l.map fun p=>(Sum.inr p.1:Key)) (l.map fun p=>T.int (p.2:Int))
def xx (ts:List T) (q:Rt→Prop):Prop:=∃ rs:List Rw,ts=[.lst (rs.map aH)]∧rs.length≤60∧q (.fr (G5 (aY rs rs.length)))
def vv (ts:List T) (q:Rt→Prop):Prop:=∃ (rs:List Rw) (l:List (Str×Nat)) (i:Nat) (x f:Str) (as:List kj) (j:Nat) (ps:List Str),ts=[.lst (rs.map aH),G5 l,.int (i:Int)]∧rs[i]?=some (Rw.call x f as)∧mf l f=some j∧i≤j∧rs[j]?=some (Rw.df f ps)∧ps.length=as.length∧q (.vw (.bl true))
def kX (ts:List T) (q:Rt→Prop):Prop:=∃ rs:List Rw,ts=[.lst (rs.map aH)]∧rs.length≤60∧tq rs∧q (.vw .bu)
def nS (ts:List T) (q:Rt→Prop):Prop:=∃ rs:List Rw,ts=[.lst (rs.map aH)]∧Acc rs∧q (.fr (.lst (rs.map aH)))
theorem nU {rs:List Rw} {i:Nat} {r:Rw} (h:rs[i]?=some r):jS (rs.map aH) (i:Int)=some (aH r):=aq (by rw [ly,h]; rfl)
theorem pA (l:List (Str×Nat)) (f:Str):fR (l.map fun p=>(Sum.inr p.1:Key)) (l.map fun p=>T.int (p.2:Int)) (Sum.inr f)=(mf l f).map fun i=>T.int (i:Int):=by
 induction l with
 | nil=>rfl
 | cons p l ih =>
   obtain ⟨k,i⟩:=p
   simp only [iF,fR,mf]
   by_cases h:k=f
   · rw [if_pos h,if_pos (by rw [h])]; rfl
   · rw [if_neg h,if_neg (fun z=>h (Sum.inr.inj z))]; exact ih
theorem pB (rs:List Rw):∀ n,(aY rs n).length≤n
 | 0=>dX _
 | n+1=>by
   have:=pB rs n
   simp only [aY]
   split
   · rename_i r _
     cases r <;> simp only [IZ] <;> first
      | omega
      | (split <;> simp <;> omega)
   · omega
section
variable {P:Program} {w:World} {K:PySem.W.Frag} {mg:Str→Option Value} {base:Heap}
abbrev vz:List Str:=["opened","word"]
theorem kY:aI vz ["opened","word"] (aj i0):=L2.gI
theorem tu {f:Addr} {fd:FuncData} (D:Df K mg "may_stand" i0 ["opened","word"] f fd) (M:Au w K mg):b8 P w K mg base "may_stand" ["opened","word"] 1 (bW K 2 L0):=by
 refine D.jo (j5 D.F kY rfl fun bD A outer s H E Ox hr ts q hG=>?_)
 have nd:=kY.nd
 have hu:=bp.fF hr
 refine ⟨_,(ag (aS (bz hu (VP.vr (aB ay az (by rfl) M.len gE (ao (aa 0) aw))) (VP.vr af))
    (ah (aD (VP.vx (Cz (aa 1) (VP.vr (bc (ae (VP.ve au) (ae (VP.ve au) ai))))))))
    aA)
   (ag (aS (bz hu (aa 1) (VP.vr au))
     (ah (aD (VP.vx (mG hu (VP.vr (aJ (aa 0) (VP.vr (gN (VP.vr af))))) (VP.vr au)))))
     aA)
   (ag (aS (bz hu (aa 1) (VP.vr au))
     (ah (aD (VP.vx (mG hu (VP.vr (aJ (aa 0) (VP.vr (gN (VP.vr af))))) (VP.vr au)))))
     aA)
   (ag (aS (bz hu (aa 1) (VP.vr au))
     (ah (aD (VP.vx (Co hu (VP.vr (aJ (aa 0) (VP.vr (gN (VP.vr af))))) (VP.vr au)))))
     aA)
   (ah (aD (VP.vx (Co hu (aa 1) (VP.vr au))))))))),fun _=>?_⟩
 obtain ⟨st,x,rfl,hq⟩:=hG
 rcases QW st with e | ⟨s0,l,e⟩
 · subst e
   exact ⟨small (by simp),rfl,rfl,hq⟩
 · rw [List.concat_eq_append] at e
   have hl:((st.map T.str).length:Int)≠0:=by rw [e]; simp; omega
   have ex:jS (st.map T.str) (-1)=some (T.str l):=by rw [e,ud]; exact ux _ _
   unfold cT at hq
   rw [e,MU] at hq
   refine gQ (c:=decide (((st.map T.str).length:Int)=0)) (decide_eq_false hl) ?_
   have fU:q (.vw (.bl (if x="give" then decide (l="def") else if x="else" then decide (l="if") else if x="end" then !decide (l="def") else !decide (x="def")))):=hq
   refine b_ (fun h=>?_) (fun h=>?_)
   · rw [if_pos h] at fU; exact ⟨_,ex,fU⟩
   · rw [if_neg h] at fU
     refine b_ (fun h=>?_) (fun h=>?_)
     · rw [if_pos h] at fU; exact ⟨_,ex,fU⟩
     · rw [if_neg h] at fU
       refine b_ (fun h=>?_) (fun h=>?_)
       · rw [if_pos h] at fU; exact ⟨_,ex,fU⟩
       · rw [if_neg h] at fU; exact fU
abbrev tw:List Str:=["program","place","row"]
theorem jL:aI tw ["program"] (aj gU):=L2.gI
theorem qH {f:Addr} {fd:FuncData} (D:Df K mg "check_rows" gU ["program"] f fd) (M:Au w K mg) (Dz:b8 P w K mg base "is_row" ["row"] 5 (bW K 1 Pq)):b8 P w K mg base "check_rows" ["program"] 6 (bW K 1 xw):=by
 obtain ⟨Pu,Nf,DA,DB,DC,DD⟩:=Dz
 refine D.jo (j5 D.F jL rfl fun bD A outer s H E Ox hr ts q hG=>?_)
 have nd:=jL.nd
 have np:∀ {i:Nat},aX ⟨H,[],Ox⟩ i:=kG
 refine ⟨_,(ah (dm Bt rfl (jk (by rfl) M.enumerate (ak 0)) (gO (n:=2) rfl (bt (aQ (i:=1) nd rfl (Or.inl rfl) np) (bt (aQ (i:=2) nd rfl (Or.inl rfl) np) eB)))
   (ah (aS (di (cY (aL DD (hr.mono (by decide)) (by rfl) DA DB DC (ae (ak 2) ai))))
     (ah j')
     aA)))),fun _=>?_⟩
 obtain ⟨rs,rfl,hg,hq⟩:=hG
 refine eG (fun i ρ=>∃ b1 b2,ρ=[some (.lst (rs.map aH),false),b1,b2]) ⟨_,_,rfl⟩ ?_ ?_
 · rintro i r ρ hr ⟨b1,b2,rfl⟩
   obtain ⟨x,ps,ex,Wx,Yi,Yj⟩:=hg r (mW hr)
   refine ⟨rfl,rfl,rfl,x,ps,by rw [← ex],by omega,Yi,?_⟩
   rw [Yj]
   exact ⟨_,_,rfl⟩
 · rintro ρ ⟨b1,b2,rfl⟩
   exact hq
abbrev mh:List Str:=["opened","word"]
theorem pC:aI mh ["opened","word"] (aj gv):=L2.gI
theorem xy {f:Addr} {fd:FuncData} (D:Df K mg "go_past" gv ["opened","word"] f fd) (M:Au w K mg):b8 P w K mg base "go_past" ["opened","word"] 1 (qt K [true,false] Uy):=by
 refine D.jo (TH D.F pC rfl fun bD A outer s H E as Ox hr ts q hl hG=>?_)
 have nd:=pC.nd
 have hu:=bp.fF hr
 obtain ⟨aO,mO,hO⟩:=M.G3
 obtain ⟨aC,mC,hC⟩:=M.G4
 have Av:∀ {pos},VP (dI iN P w K mg base mh "go_past" (aj gv) f bD A outer s H E).nI ⟨H,pz [true,false] as 0,Ox⟩ (.Name "OPENERS" pos) (fC (.tup [.str "def",.str "if",.str "while"])):=ej (by rfl) mO (v:=.ref aO) rfl fun H A=>br (hO H) (aG.cons cf (aG.cons cf (aG.cons cf aG.nil)))
 have Aw:∀ {pos},VP (dI iN P w K mg base mh "go_past" (aj gv) f bD A outer s H E).nI ⟨H,pz [true,false] as 0,Ox⟩ (.Name "CLOSERS" pos) (fC (.tup [.str "give",.str "end"])):=ej (by rfl) mC (v:=.ref aC) rfl fun H A=>br (hC H) (aG.cons cf (aG.cons cf aG.nil))
 refine ⟨_,(ah (aS (CA (aa 1) (VP.vr Av))
    (ah (bf (dY 0 ui uj bh bb (ae (ak 1) ai))))
    (ah (aS (CA (aa 1) (VP.vr Aw))
      (ah (bf (Cs 0 PySem.F.slot_list_pop PySem.F.type_list_pop B5 yM)))
      (ah (aS (bz hu (aa 1) (VP.vr au))
        (ah (wL 0 (VP.ve au) (VP.vr (gN (VP.vr af)))))
        aA)))))),?_⟩
 obtain ⟨st,x,rfl,hl,hm,hq⟩:=hG
 have e1:sN (.str x) [.str "def",.str "if",.str "while"]=decide (x="def"∨x="if"∨x="while"):=by
  have:=kW x ["def","if","while"]
  rw [show ([.str "def",.str "if",.str "while"]:List T)=(["def","if","while"]:List Str).map .str from rfl,this]
  simp
 have e2:sN (.str x) [.str "give",.str "end"]=decide (x="give"∨x="end"):=by
  have:=kW x ["give","end"]
  rw [show ([.str "give",.str "end"]:List T)=(["give","end"]:List Str).map .str from rfl,this]
  simp
 unfold ir at hq
 refine ⟨rfl,rfl,?_⟩
 rw [e1]
 refine b_ (fun h=>?_) (fun h=>?_)
 · rw [if_pos h] at hq
   refine ⟨(by rw [sizeLine_eq,bZ]; omega),?_⟩
   show q [.lst (st.map .str ++ [.str x])] _
   rw [ud] at hq
   exact hq
 · rw [if_neg h] at hq
   refine ⟨rfl,rfl,?_⟩
   rw [e2]
   have ne:(x="give"∨x="end")∨x="else"→∃ s0 l,st=s0 ++ [l]:=fun hx=>by
    rcases QW st with e | ⟨s0,l,e⟩
    · subst e
      exfalso
      rcases hx with (rfl | rfl) | rfl <;> exact absurd hm (by decide +kernel)
    · exact ⟨s0,l,by rw [e,RX]⟩
   refine b_ (fun h2=>?_) (fun h2=>?_)
   · rw [if_pos h2] at hq
     obtain ⟨s0,l,rfl⟩:=ne (.inl h2)
     refine ⟨rfl,.str l,by simp,?_⟩
     show q [.lst (((s0 ++ [l]).map T.str).dropLast)] _
     rw [Jv] at hq
     rw [ud]
     show q [.lst ((s0.map T.str ++ [T.str l]).dropLast)] _
     rw [Jv]
     exact hq
   · rw [if_neg h2] at hq
     refine b_ (fun h3=>?_) (fun h3=>?_)
     · rw [if_pos h3] at hq
       obtain ⟨s0,l,rfl⟩:=ne (.inr h3)
       have Gz:((s0 ++ [l]).map T.str).length=s0.length+1:=by simp
       refine ⟨s0.length,?_,?_⟩
       · unfold yC
         rw [Gz,if_neg (by decide),if_pos (by omega)]
         congr 1
         omega
       · show q [.lst (((s0 ++ [l]).map T.str).set s0.length (T.str "else"))] _
         rw [Jv] at hq
         have e3:((s0 ++ [l]).map T.str).set s0.length (T.str "else")=(s0 ++ [("else" : Str)]).map T.str:=by simp
         rw [e3]
         exact hq
     · rw [if_neg h3] at hq
       exact hq
abbrev e_:List Str:=["program","opened","place","row"]
theorem cq:aI e_ ["program"] (aj b5):=L2.gI
theorem iu {f:Addr} {fd:FuncData} (D:Df K mg "check_blocks" b5 ["program"] f fd) (M:Au w K mg) (i5:b8 P w K mg base "may_stand" ["opened","word"] 1 (bW K 2 L0)) (mi:b8 P w K mg base "go_past" ["opened","word"] 1 (qt K [true,false] Uy)):b8 P w K mg base "check_blocks" ["program"] 3 (bW K 1 i4):=by
 obtain ⟨vA,tD,i6,i7,i8,i9⟩:=i5
 obtain ⟨Ax,xA,mj,mm,mn,mq⟩:=mi
 refine D.jo (j5 D.F cq rfl fun bD A outer s H E Ox hr ts q hG=>?_)
 have nd:=cq.nd
 have np:∀ {i:Nat},aX ⟨H,[],Ox⟩ i:=kG
 refine ⟨_,(ag (fQ (i:=1) nd rfl (Or.inl rfl) (VP.vx (bO ai)) np)
   (ag (dm Bt rfl (jk (by rfl) M.enumerate (ak 0)) (gO (n:=2) rfl (bt (aQ (i:=2) nd rfl (Or.inl rfl) np) (bt (aQ (i:=3) nd rfl (Or.inl rfl) np) eB)))
     (ag (aS (di (cY (gk i9 (hr.mono (by decide)) (by rfl) i6 i7 i8 (ao (aa 1) (ao (VP.vr (aJ (aa 3) (VP.vr af))) aw)))))
       (ah j')
       aA)
     (ah (bf (oB mq (hr.mono (by decide)) (by rfl) mj mm mn (nN 1 (iU (VP.ve (aJ (aa 3) (VP.vr af))) sD)))))))
   (ah (aS (rh (VP.vr (aB ay az (by rfl) M.len gE (ao (aa 1) aw))) (VP.vr af))
     (ah j')
     aA)))),fun _=>?_⟩
 obtain ⟨rs,rfl,hn,hb,hq⟩:=hG
 refine ⟨km _,?_⟩
 refine eG (fun i ρ=>∃ b2 b3 st,ρ=[some (.lst (rs.map aH),false),some (.lst (st.map .str),true),b2,b3]∧jG (some []) (rs.take i)=some st∧st.length≤i) ⟨_,_,[],rfl,rfl,km _⟩ ?_ ?_
 · rintro i r ρ hr ⟨b2,b3,st,rfl,hs,hl⟩
   have hi:=(fH.mp hr).1
   obtain ⟨s',e1,hm,e2⟩:=Dv hb i hr
   rw [hs] at e1
   cases e1
   obtain ⟨l,el⟩:=s_ r
   rw [el]
   refine ⟨rfl,rfl,_,aq (j:=0) rfl,rfl,st,wd r,rfl,?_⟩
   rw [hm]
   refine ⟨rfl,_,aq (j:=0) rfl,st,wd r,rfl,by omega,hm,?_⟩
   refine ⟨_,_,ir st (wd r),rfl,e2,?_⟩
   unfold ir
   split
   · rw [qd]; simp; omega
   · split
     · rw [MT]; omega
     · split
       · rw [qd,MT]; simp
         cases st with
         | nil=>rename_i z; rw [z] at hm; exact absurd hm (by decide +kernel)
         | cons a t=>simp at hl ⊢; omega
       · omega
 · rintro ρ ⟨b2,b3,st,rfl,hs,_⟩
   rw [Q6,hb] at hs
   cases hs
   exact hq
abbrev tE:List Str:=["program","firsts","place","row"]
theorem jM:aI tE ["program"] (aj gW):=L2.gI
theorem qI {f:Addr} {fd:FuncData} (D:Df K mg "first_defs" gW ["program"] f fd) (M:Au w K mg):b8 P w K mg base "first_defs" ["program"] 1 (bW K 1 xx):=by
 refine D.jo (j5 D.F jM rfl fun bD A outer s H E Ox hr ts q hG=>?_)
 have nd:=jM.nd
 have hu:=bp.fF hr
 have np:∀ {i:Nat},aX ⟨H,[],Ox⟩ i:=kG
 refine ⟨_,(ag (fQ (i:=1) nd rfl (Or.inl rfl) (VP.vx GH) np)
   (ag (dm Bt rfl (jk (by rfl) M.enumerate (ak 0)) (gO (n:=2) rfl (bt (aQ (i:=2) nd rfl (Or.inl rfl) np) (bt (aQ (i:=3) nd rfl (Or.inl rfl) np) eB)))
     (ah (aS (bz hu (VP.vr (aJ (aa 3) (VP.vr af))) (VP.vr au))
       (ah (bf (G2 1 (VP.ve (aJ (aa 3) (VP.vr af))) (ak 2))))
       aA)))
   (ah (aD (jh 1 np))))),fun _=>?_⟩
 obtain ⟨rs,rfl,hn,hq⟩:=hG
 refine eG (fun i ρ=>∃ b2 b3,ρ=[some (.lst (rs.map aH),false),some (G5 (aY rs i),true),b2,b3]) ⟨_,_,rfl⟩ ?_ ?_
 · rintro i r ρ hr ⟨b2,b3,rfl⟩
   have hi:=(fH.mp hr).1
   have hlen:((aY rs i).map fun p=>T.int (p.2:Int)).length < 16777216:=by
    rw [bZ]; have:=pB rs i; omega
   have es:aY rs (i+1)=IZ (aY rs i) i r:=by simp only [aY,hr]
   cases r with
   | df g ps =>
     refine ⟨rfl,rfl,_,aq (j:=0) rfl,?_⟩
     refine ⟨_,aq (j:=1) rfl,hlen,?_⟩
     rw [es]
     simp only [IZ]
     rw [pA]
     cases ha:mf (aY rs i) g with
     | some j=>exact ⟨_,_,rfl⟩
     | none =>
       show ∃ b2 b3,_=[_,some (G5 (aY rs i ++ [(g,i)]),true),b2,b3]
       have ef:G5 (aY rs i ++ [(g,i)]) = .dk (((aY rs i).map fun p=>(Sum.inr p.1:Key)) ++ [Sum.inr g]) (((aY rs i).map fun p=>T.int (p.2:Int)) ++ [T.int (i:Int)]):=by
        simp only [G5,ud,iF,JC]
       rw [ef]
       exact ⟨_,_,rfl⟩
   | _ =>
     refine ⟨rfl,rfl,_,aq (j:=0) rfl,?_⟩
     rw [es]
     exact ⟨_,_,rfl⟩
 · rintro ρ ⟨b2,b3,rfl⟩
   exact hq
abbrev ka:List Str:=["program","firsts","place","row","first"]
theorem d0:aI ka ["program","firsts","place"] (aj dW):=L2.gI
theorem mU {f:Addr} {fd:FuncData} (D:Df K mg "may_call" dW ["program","firsts","place"] f fd) (M:Au w K mg):b8 P w K mg base "may_call" ["program","firsts","place"] 1 (bW K 3 vv):=by
 refine D.jo (j5 D.F d0 rfl fun bD A outer s H E Ox hr ts q hG=>?_)
 have nd:=d0.nd
 have hu:=bp.fF hr
 have np:∀ {i:Nat},aX ⟨H,[],Ox⟩ i:=kG
 have v_:=yY hu
 refine ⟨_,(ag (aV (i:=3) nd rfl (Or.inl rfl) (VP.vx (aJ (aa 0) (aa 2))) np)
  (ag (aV (i:=4) nd rfl (Or.inl rfl) (VP.vx (C0 v_ (aa 1) (VP.vr (aJ (aa 3) (VP.vr af))) ⟨rfl,rfl,rfl,rfl⟩)) np)
  (ag (aS (VW.vc (jI (uU (aa 4) (VP.vr jV)) (gL (gj (aa 4) (aa 2)))))
    (ah (aD (VP.vx jH)))
    aA)
  (ah (aD (VP.vx (mG hu (VP.vr (aB ay az (by rfl) M.len gE (ao (VP.vr (aJ (VP.vr (aJ (aa 0) (aa 4))) (VP.vr af))) aw))) (VP.vr (aB ay az (by rfl) M.len gE (ao (VP.vr (aJ (aa 3) (VP.vr af))) aw)))))))))),fun _=>?_⟩
 obtain ⟨rs,l,i,x,g,as,j,ps,rfl,hi,ha,FY,hj,hl,hq⟩:=hG
 refine ⟨_,nU hi,_,aq (j:=2) rfl,?_⟩
 have ex:=pA l g
 rw [ha] at ex
 dsimp only [Rt.t,Aa]
 rw [ex]
 refine gQ (c:=decide ((j:Int) < (i:Int))) (decide_eq_false (by omega)) ?_
 refine ⟨_,nU hj,_,aq (j:=2) rfl,_,aq (j:=3) rfl,?_⟩
 show q (.vw (.bl (decide (((ps.map T.str).length:Int)=((as.map lu).length:Int)))))
 rw [bZ,bZ,decide_eq_true (by omega)]
 exact hq
abbrev fV:List Str:=["program","firsts","place","row"]
theorem cD:aI fV ["program"] (aj cw):=L2.gI
theorem i_ {f:Addr} {fd:FuncData} (D:Df K mg "check_calls" cw ["program"] f fd) (M:Au w K mg) (gY:b8 P w K mg base "first_defs" ["program"] 1 (bW K 1 xx)) (kb:b8 P w K mg base "may_call" ["program","firsts","place"] 1 (bW K 3 vv)):b8 P w K mg base "check_calls" ["program"] 3 (bW K 1 kX):=by
 obtain ⟨tF,qJ,gZ,g6,g7,g8⟩:=gY
 obtain ⟨xB,vB,kc,kd,ke,kf⟩:=kb
 refine D.jo (j5 D.F cD rfl fun bD A outer s H E Ox hr ts q hG=>?_)
 have nd:=cD.nd
 have hu:=bp.fF hr
 have np:∀ {i:Nat},aX ⟨H,[],Ox⟩ i:=kG
 have v_:=yY hu
 refine ⟨_,(ag (aV (i:=1) nd rfl (Or.inl rfl) (VP.vx (aL g8 (hr.mono (by decide)) (by rfl) gZ g6 g7 (ae (ak 0) ai))) np)
   (ah (dm Bt rfl (jk (by rfl) M.enumerate (ak 0)) (gO (n:=2) rfl (bt (aQ (i:=2) nd rfl (Or.inl rfl) np) (bt (aQ (i:=3) nd rfl (Or.inl rfl) np) eB)))
     (ag (aS (VW.vc (dh (bz hu (VP.vr (aJ (aa 3) (VP.vr af))) (VP.vr au)) (cH (oq hu (VP.vr (CZ v_ (aa 1) (VP.vr (aJ (aa 3) (VP.vr af))))) (aa 2)))))
       (ah j')
       aA)
     (ah (aS (VW.vc (dh (bz hu (VP.vr (aJ (aa 3) (VP.vr af))) (VP.vr au)) (cH (di (cY (aL kf (hr.mono (by decide)) (by rfl) kc kd ke (ae (ak 0) (ae (ak 1) (ae (ak 2) ai)))))))))
       (ah j')
       aA)))))),fun _=>?_⟩
 obtain ⟨rs,rfl,hn,hd,hq⟩:=hG
 refine ⟨rfl,rs,rfl,hn,?_⟩
 refine eG (fun i ρ=>∃ b2 b3,ρ=[some (.lst (rs.map aH),false),some (G5 (aY rs rs.length),false),b2,b3]) ⟨_,_,rfl⟩ ?_ ?_
 · rintro i r ρ hr ⟨b2,b3,rfl⟩
   cases r with
   | df g ps =>
     refine ⟨rfl,rfl,_,aq (j:=0) rfl,_,aq (j:=1) rfl,?_⟩
     have ex:=pA (aY rs rs.length) g
     rw [hd.first hr] at ex
     exact ⟨_,ex,gQ (c:=!decide ((i:Int)=(i:Int))) (by simp) ⟨_,aq (j:=0) rfl,_,_,rfl⟩⟩
   | call x g as =>
     obtain ⟨j,ps,FY,hj,hl⟩:=hd.ca i x g as hr
     refine ⟨rfl,rfl,_,aq (j:=0) rfl,_,aq (j:=0) rfl,rfl,rs,_,i,x,g,as,j,ps,rfl,hr,hd.first hj,by omega,hj,hl,?_⟩
     exact ⟨_,_,rfl⟩
   | _=>exact ⟨rfl,rfl,_,aq (j:=0) rfl,_,aq (j:=0) rfl,_,_,rfl⟩
 · rintro ρ ⟨b2,b3,rfl⟩
   exact hq
abbrev dC:List Str:=["rows","program"]
theorem cU:aI dC ["rows"] (aj bU):=L2.gI
theorem jN {f:Addr} {fd:FuncData} (D:Df K mg "program_of" bU ["rows"] f fd) (M:Au w K mg) (g9:b8 P w K mg base "check_rows" ["program"] 6 (bW K 1 xw)) (ff:b8 P w K mg base "check_blocks" ["program"] 3 (bW K 1 i4)) (fW:b8 P w K mg base "check_calls" ["program"] 3 (bW K 1 kX)):b8 P w K mg base "program_of" ["rows"] 7 (bW K 1 nS):=by
 obtain ⟨tG,qK,g_,hU,hV,hX⟩:=g9
 obtain ⟨pD,nz,fg,fj,fm,fq⟩:=ff
 obtain ⟨qL,pF,fY,fZ,f_,gb⟩:=fW
 refine D.jo (j5 D.F cU rfl fun bD A outer s H E Ox hr ts q hG=>?_)
 have nd:=cU.nd
 have np:∀ {i:Nat},aX ⟨H,[],Ox⟩ i:=kG
 obtain ⟨tM,mM⟩:=M.rK
 have ja:∀ {pos},VP (dI iN P w K mg base dC "program_of" (aj bU) f bD A outer s H E).nI ⟨H,[],Ox⟩ (.Name "MOST_ROWS" pos) (fC (.int 60)):=ej (by rfl) mM (v:=.int 60) ⟨_,rfl⟩ fun _ _=>bE
 refine ⟨_,(ag (fQ (i:=1) nd rfl (Or.inl rfl) (VP.vx (eE gJ jZ (by rfl) M.list wQ (ao (aa 0) aw))) np)
  (ag (aS (rh (VP.vr (aB ay az (by rfl) M.len gE (ao (aa 1) aw))) (VP.vr ja))
    (ah j')
    aA)
  (ag (bf (VP.vx (gk hX (hr.mono (by decide)) (by rfl) g_ hU hV (ao (aa 1) aw))))
  (ag (bf (VP.vx (gk fq (hr.mono (by decide)) (by rfl) fg fj fm (ao (aa 1) aw))))
  (ag (bf (VP.vx (gk gb (hr.mono (by decide)) (by rfl) fY fZ f_ (ao (aa 1) aw))))
  (ah (aD (jh 1 np)))))))),fun _=>?_⟩
 obtain ⟨rs,rfl,hA,hq⟩:=hG
 have hn:=hA.n
 have hl:((rs.map aH).length:Int)=(rs.length:Int):=by rw [bZ]
 refine gQ (c:=decide ((60:Int) < ((rs.map aH).length:Int))) (decide_eq_false (by omega)) ?_
 exact ⟨rfl,rs,rfl,hA.g,rfl,rfl,rs,rfl,hA.n,hA.b,rfl,rfl,rs,rfl,hA.n,hA.d,rfl,hq⟩
end
end fB
namespace Gen
open PySem L2 VT
def brk (st:List Str):List Rw→Nat→Option Nat
 | [],i=>if st=[] then none else some i
 | r :: rs,i=>if cT st (wd r)=true then brk (ir st (wd r)) rs (i+1) else some i
theorem za {α:Type} {l:List α} {i:Nat} {x:α} (h:l[i]?=some x):l.drop i=x :: l.drop (i+1):=by
 obtain ⟨hi,e⟩:=fH.mp h
 rw [← e]; exact (RZ hi)
def tI (rs:List Rw) (i:Nat) (f:Str) (as:List kj):Bool:=match mf (aY rs rs.length) f with
 | none=>false
 | some j=>if j < i then false else match rs[j]? with
   | some (.df _ ps)=>decide (ps.length=as.length)
   | _=>false
theorem rL {rs:List Rw} {i:Nat} {f:Str} {as:List kj} (h:mf (aY rs rs.length) f=none):tI rs i f as=false:=by unfold tI; rw [h]
theorem rM {rs:List Rw} {i j:Nat} {f g:Str} {ps:List Str} {as:List kj} (h:mf (aY rs rs.length) f=some j) (hj:rs[j]?=some (.df g ps)):tI rs i f as=if j < i then false else decide (ps.length=as.length):=by
 unfold tI
 rw [h]
 dsimp only
 rw [hj]
theorem zb {c:Bool} {A B:Prop} (hc:c=true) (h:A):if c=true then A else B:=by rw [if_pos hc]; exact h
def bR (rs:List Rw) (i:Nat):Bool:=match rs[i]? with
 | some (.df g _)=>!decide (mf (aY rs rs.length) g=some i)
 | some (.call _ f as)=>!tI rs i f as
 | _=>false
def fu (rs:List Rw):Option Nat:=(List.range rs.length).find? (bR rs)
theorem xC {rs:List Rw} {i:Nat} (hi:i < rs.length) (h:∀ j < i,bR rs j=false) (hw:bR rs i=true):fu rs=some i:=by
 unfold fu
 rw [List.find?_range_eq_some]
 exact ⟨hw,zy.mpr hi,fun j hj=>by rw [h j hj]; rfl⟩
theorem xD {rs:List Rw} (h:∀ j < rs.length,bR rs j=false):fu rs=none:=by
 unfold fu
 rw [List.find?_eq_none]
 intro j hj
 rw [h j (zy.mp hj)]; simp
theorem G6 {st:List Str} {x:Str} (h:cT st x=true):(ir st x).length≤st.length+1:=by
 unfold ir
 split
 · rw [qd]; simp
 · split
   · rw [MT]; omega
   · split
     · rw [qd,MT]; simp
     · omega
end Gen
namespace EX
open PySem PySem.Spec PySem.Calls PyProof.Rows L2
def Flt (h:Heap) (e C:Addr) (dd T:Option Addr) (fl:Value):Prop :=
 ∃ oe vs,h.get? e=some oe∧oe.cls = .ref C∧oe.dict=dd∧oe.data = .fields vs∧1 < vs.size ∧
  match T with
  | none=>vs[1]?=some .none
  | some a=>vs[1]?=some (.ref a)∧a≠e∧∃ oT ts,h.get? a=some oT∧oT.data = .fields ts∧ts[3]?=some fl
structure Kp (fs:List Addr) (e:Addr) (T:Option Addr) (h h':Heap):Prop where
 keep:∀ b o,h.get? b=some o→b≠e→T≠some b→b∉fs→h'.get? b=some o
 slot:∀ b o,h.get? b=some o→b∈fs→b≠e→T≠some b→∃ sl,h'.get? b=some { o with slots:=sl }
theorem Kp.any {fs:List Addr} {e:Addr} {T:Option Addr} {h h':Heap} (k:Kp fs e T h h') {b:Addr} {o:Obj} (q:h.get? b=some o) (h1:b≠e) (h2:T≠some b):∃ sl,h'.get? b=some { o with slots:=sl }:=by
 by_cases z:b∈fs
 · exact k.slot b o q z h1 h2
 · exact ⟨o.slots,k.keep b o q h1 h2 z⟩
theorem Kp.trans {fs:List Addr} {e:Addr} {T T':Option Addr} {h h1 h2:Heap} (a:Kp fs e T h h1) (b:Kp fs e T' h1 h2) (hT:∀ c,T'=some c→h.get? c=none∨T=some c):Kp fs e T h h2 where
 keep:=fun c o q n1 n2 n3=>b.keep c o (a.keep c o q n1 n2 n3) n1 (fun z=>by rcases hT c z with y | y; rw [q] at y; cases y; exact n2 y) n3
 slot:=fun c o q n1 n2 n3=>by
  obtain ⟨sl,q1⟩:=a.slot c o q n1 n2 n3
  obtain ⟨yz,q2⟩:=b.slot c _ q1 n1 n2 (fun z=>by rcases hT c z with y | y; rw [q] at y; cases y; exact n3 y)
  exact ⟨yz,q2⟩
theorem G7 (o:Obj) (f:Array Value→Array Value):(o.mapFields f).dict=o.dict:=by
 obtain ⟨c,d,da,sl⟩:=o
 cases da <;> rfl
section
variable {M:Model} {A:Around} {E:Value→Shared→Prop} {s:Shared} {e C L:Addr} {dd T:Option Addr} {fl:Value} {base:Heap} {env:Env} {outer:List Env}
theorem Flt.Fg {h:Heap} {l:List Env} (F:Flt h e C dd T fl) (hl:h.FunFrames base l):e∉kn l∧∀ a,T=some a→a∉kn l:=by
 obtain ⟨oe,vs,he,hc,hd,Ay,q9,hT⟩:=F
 refine ⟨fun z=>?_,fun a ea z=>?_⟩
 · obtain ⟨_,o,ho,hn⟩:=hl.mem z
   rw [he] at ho
   cases ho
   exact hn vs Ay
 · subst ea
   obtain ⟨_,_,oT,ts,G8,E2,_⟩:=hT
   obtain ⟨_,o,ho,hn⟩:=hl.mem z
   rw [G8] at ho
   cases ho
   exact hn ts E2
theorem vC {head:Value} {hn:Bool} {oe:Obj} {vs:Array Value} {Q:Unit→Shared→Prop} (E3:A.frames=some (env :: outer)) (hl:s.heap.FunFrames base (env :: outer)) (hf:env.frame=some L)
  (he:s.heap.get? e=some oe) (hc:oe.cls = .ref C) (hd:oe.dict=dd) (Ay:oe.data = .fields vs) (q9:1 < vs.size)
  (h:∀ h' T',Flt h' e C dd (some T') (rawInt L)→s.heap.get? T'=none→Kp (kn (env :: outer)) e none s.heap h'→Q () { s with heap:=h' }) :
  wpAny M A (do let a ← frameOf env; let pl ← entryPlaceOf L hn; let b ← EntryCells.newEntry head a .none (rawInt L) .none pl; setField (.ref e) 1 b) Q E s:=by
 have ne:e∉kn (env :: outer):=fun z=>by
  obtain ⟨_,o,ho,q⟩:=hl.mem z
  rw [he] at ho
  cases ho
  exact q vs Ay
 refine wpAny_bind (wpAny_frameOf_fun E3 hl hf fun h1 so=>?_)
 refine wpAny_bind (wpAny_entryPlaceOf fun pl fE=>?_)
 unfold EntryCells.newEntry newFields
 refine wpAny_bind (wpAny_newObj_type ?_ (fE.sizeOk5 _ _ _ _ _))
 have e1:h1.get? e=some oe:=(so.2.1 e ne).trans he
 generalize hx:([head,Value.ref L,.none,rawInt L,.none] ++ (if pl.isEmpty then List.replicate 6 Value.none else pl))=xs
 have x3:xs.toArray[3]?=some (rawInt L):=by rw [← hx]; simp
 have e2:(h1.push ⟨.type "traceback",none,.fields xs.toArray,#[]⟩).get? e=some oe:=de _ e1
 refine wpAny_setField e2 Ay q9 ?_
 have nT:h1.objs.size≠e:=Bu (dG e1)
 have d3:=Jw Ay (·.setIfInBounds 1 (Value.ref h1.objs.size))
 refine h _ h1.objs.size ⟨_,_,Jt _ e2 (Nq d3),(Obj.cls_mapFields _ _).trans hc,?_,d3,by simp [q9],by simp [q9],nT,⟨.type "traceback",none,.fields xs.toArray,#[]⟩,xs.toArray,?_,rfl,x3⟩ (Nt (by rw [so.1]; exact dX _)) ⟨fun b o q n1 _ n3=>?_,fun b o q n1 n2 _=>?_⟩
 · rw [← hd]; exact G7 _ _
 · rw [HZ _ _ (Ne.symm nT)]; exact nE h1 rfl
 · rw [HZ _ _ (Ne.symm n1)]; exact de _ ((so.2.1 b n3).trans q)
 · obtain ⟨sl,q2⟩:=so.2.2 b o q
   exact ⟨sl,by rw [HZ _ _ (Ne.symm n2)]; exact de _ q2⟩
theorem zc {Q:Unit→Shared→Prop} (E3:A.frames=some (env :: outer)) (hl:s.heap.FunFrames base (env :: outer)) (hf:env.frame=some L) (F:Flt s.heap e C dd T .none)
  (h:∀ h' T',Flt h' e C dd (some T') (rawInt L)→s.heap.get? T'=none→Kp (kn (env :: outer)) e T s.heap h'→Q () { s with heap:=h' }):wpAny M A (noteFrame (.ref e) env) Q E s:=by
 have nf:=F.Fg hl
 obtain ⟨oe,vs,he,hc,hd,Ay,q9,hT⟩:=F
 unfold noteFrame
 simp only [hf]
 cases T with
 | none =>
   refine wpAny_bind (wpAny_field he Ay hT ?_)
   rw [if_neg (by decide)]
   exact vC E3 hl hf he hc hd Ay q9 h
 | some a =>
   obtain ⟨h1,ne,oT,ts,G8,E2,h3⟩:=hT
   refine wpAny_bind (wpAny_field he Ay h1 ?_)
   rw [if_pos (by simp)]
   refine wpAny_bind (wpAny_field G8 E2 h3 ?_)
   rw [if_neg (by simp [rawInt])]
   refine wpAny_bind (wpAny_setField G8 E2 (RY.mp h3).1 ?_)
   have Ja:∀ b,b≠a→(s.heap.update a (Obj.mapFields (·.setIfInBounds 3 Value.none))).get? b=s.heap.get? b:=fun b hb=>HZ _ _ (Ne.symm hb)
   have Wy:=hl.of_keeps (h':=s.heap.update a (Obj.mapFields (·.setIfInBounds 3 Value.none))) fun b o q nn=>⟨o,(Ja b fun z=>by subst z; rw [G8] at q; cases q; exact nn ts E2).trans q,rfl⟩
   refine vC (s:={ s with heap:=s.heap.update a (Obj.mapFields (·.setIfInBounds 3 Value.none)) }) E3 Wy hf ((Ja e (Ne.symm ne)).trans he) hc hd Ay q9 fun h' T' f n k=>h h' T' f ?_ ⟨fun b o q n1 n2 n3=>?_,fun b o q n1 n2 n3=>?_⟩
   · cases q:s.heap.get? T' with
     | none=>rfl
     | some o =>
       by_cases z:T'=a
       · subst z
         have:=Jt (Obj.mapFields (·.setIfInBounds 3 Value.none)) G8 (Nq (Jw E2 _))
         rw [this] at n
         cases n
       · rw [Ja T' z,q] at n; cases n
   · have nb:b≠a:=fun z=>n2 (by rw [z])
     exact k.keep b o ((Ja b nb).trans q) n1 (fun z=>by cases z) n3
   · have nb:b≠a:=fun z=>n3 (by rw [z])
     exact k.slot b o ((Ja b nb).trans q) n1 n2 (fun z=>by cases z)
theorem tJ {Q:Unit→Shared→Prop} {a:Addr} (F:Flt s.heap e C dd (some a) fl) (h:∀ h',Flt h' e C dd (some a) .none→Kp [] e (some a) s.heap h'→Q () { s with heap:=h' }):wpAny M A (setFlight (.ref e) none) Q E s:=by
 obtain ⟨oe,vs,he,hc,hd,Ay,q9,h1,ne,oT,ts,G8,E2,h3⟩:=F
 have z3:=(RY.mp h3).1
 unfold setFlight
 refine wpAny_bind (wpAny_field he Ay h1 ?_)
 rw [if_pos (by simp)]
 refine wpAny_setField G8 E2 z3 ?_
 have Ja:∀ (f:Obj→Obj) b,b≠a→(s.heap.update a f).get? b=s.heap.get? b:=fun f b hb=>HZ _ _ (Ne.symm hb)
 refine h _ ⟨oe,vs,(Ja _ e (Ne.symm ne)).trans he,hc,hd,Ay,q9,h1,ne,_,_,Jt _ G8 (Nq (Jw E2 _)),Jw E2 _,by simp [z3]⟩
  ⟨fun b o q n1 n2 _=>(Ja _ b fun z=>n2 (by rw [z])).trans q,fun b o q n1 _ _=>absurd n1 (by simp)⟩
theorem DE {Q:Unit→Shared→Prop} (E3:A.frames=some (env :: outer)) (hl:s.heap.FunFrames base (env :: outer)) (hf:env.frame=some L) (F:Flt s.heap e C dd T .none)
  (h:∀ h' T',Flt h' e C dd (some T') .none→s.heap.get? T'=none→Kp (kn (env :: outer)) e T s.heap h'→Q () { s with heap:=h' }):wpAny M A (leaving env (.ref e)) Q E s:=by
 unfold leaving
 refine wpAny_bind (zc E3 hl hf F fun h1 T' f n k=>?_)
 refine tJ f fun h2 f2 k2=>h h2 T' f2 n (k.trans ⟨fun b o q n1 n2 _=>k2.keep b o q n1 n2 (by simp),fun b o q _ n2 n3=>⟨o.slots,k2.keep b o q n2 n3 (by simp)⟩⟩ fun c z=>.inl (by cases z; exact n))
end
end EX
namespace EX
open PySem PySem.Spec PySem.Calls PyProof.Rows L2
open PySem.W (findIn typeIn clsIn subIn looks_findIn looks_typeIn looks_subIn looks_clsIn Looks InstAt lookIn findObj)
abbrev E4:List Value:=[.type "ValueError",.type "Exception",.type "BaseException",.type "object"]
abbrev Yk (nm q:Str) (C N:Addr) (bs bm:List Value) (sn:List Str) (sub:List Value) (ab:Bool) (col:Option Bool) (dd:Option Addr) (k0 k1 k2 k3 k5:Option Value):Obj:=excClassObj nm q C N bs bm true sn sub ab col dd k0 k1 k2 k3 k5 "ValueError.__new__"
structure XC (K:PySem.W.Frag) (C:Addr) (tl:List Addr):Prop where
 obj:∃ nm q N bs sn sub ab col dd k0 k1 k2 k3 k5,K.lookup C=some (Yk nm q C N bs (tl.map .ref ++ E4) sn sub ab col dd k0 k1 k2 k3 k5)
 tail:∀ a∈tl,∃ c dd cd sl o es ep,K.lookup a=some ⟨c,dd,.cls cd,sl⟩∧K.lookup cd.ns=some o∧o.data = .dict es ep∧StrKeys es∧nsFind es "__init__" = none
theorem pG {K:PySem.W.Frag} {h:Heap} (X:K.In h):∀ {tl:List Addr},(∀ a∈tl,∃ c dd cd sl o es ep,K.lookup a=some ⟨c,dd,.cls cd,sl⟩∧K.lookup cd.ns=some o∧o.data = .dict es ep∧StrKeys es∧nsFind es "__init__" = none)→OwnTail h E4 (tl.map .ref ++ E4)
 | [],_=>.base
 | a :: tl,q=>by
   obtain ⟨c,dd,cd,sl,o,es,ep,h1,h2,h3,h4,h5⟩:=q a ij
   exact .own (X _ _ h1) ⟨o,es,ep,X _ _ h2,h3,h4,fun _=>rfl⟩ h5 (pG X fun b hb=>q b (jC _ hb))
section
variable {prog:Program} {w:World} {A:Around} {E:Value→Shared→Prop} {h:Heap} {g:Array GenState} {d:Drawn} {t:Nat} {os:OsState} {K:PySem.W.Frag} {C fI:Addr} {tl:List Addr} {rest:List Value}
theorem xE {Q:PySem.Fin→Shared→Prop} (X:K.In h) (xc:XC K C tl) (hi:findIn K (.ref C) "__init__" = some (some (.ref fI))) (ht:typeIn K (.ref fI)=some (.type "function"))
  (hq:∀ h' e,Heap.MadeExcOf h h' e (.ref C) rest→wpAny (model prog w) A (call (.ref fI) (.ref e :: rest)) (fun r s'=>r = .none∧Q (.done (.ret (.ref e))) s') E ⟨h',g,d,t,os⟩) (hr:rest.length≤sizeLine) :
  wpAny (model prog w) A (Builtin.«type.__call__» ⟨.ref C :: rest,[]⟩) Q E ⟨h,g,d,t,os⟩:=by
 obtain ⟨nm,q,N,bs,sn,sub,ab,col,dd,k0,k1,k2,k3,k5,oK⟩:=xc.obj
 have oC:=X _ _ oK
 have T:=pG X xc.tail
 repeat (first | with_reducible refine wpAny_loadPart_at oC ?_ | with_reducible refine wpAny_madeBy_exc oC ?_ | wp_step)
 refine codeAny_call_builtin_code (Q5 _ QY.quiet) (wpAny_check_new_subT QY T oC ?_)
 refine codeAny_exc_new_subT QY T oC ?_ hr
 show wpAny _ _ _ _ _ _
 generalize Wz:(⟨.type "tuple",none,.seq rest.toArray 0,#[]⟩:Obj)=tp
 generalize Pw:(⟨.ref C,none,.fields #[.ref h.objs.size,.none,.none,.none,.bool false,.none],#[]⟩:Obj)=oe
 have kk:∀ b o,h.get? b=some o→((h.push tp).push oe).get? b=some o:=fun b o q=>de _ (de _ q)
 have X1:K.In ((h.push tp).push oe):=fun b o q=>kk b o (X b o q)
 have Yl:=X1 _ _ oK
 have RF:((h.push tp).push oe).get? (h.objs.size+1)=some oe:=by subst Pw; heap_get
 have Ym:((h.push tp).push oe).get? h.objs.size=some tp:=by subst Wz; exact de _ (Heap.get?_push_at rfl rfl)
 have Yn:(Value.ref C :: (tl.map Value.ref ++ E4)).contains (.ref C)=true:=by simp
 have ec:oe.cls = .ref C:=by subst Pw; rfl
 unfold isInstance
 repeat (first | (with_reducible refine wpAny_loadPart_at RF ?_; rw [ec]) | (with_reducible refine wpAny_isSubtype_exc Yl ?_; rw [Yn]) | wp_step)
 show wpAny _ _ (typeLookup (.ref C) _) _ _ _
 refine looks_findIn X1 hi _ _ _ _ (fun _ _ z=>z) ?_
 refine wpAny_holding (wpAny_bind (PySem.W.bind_fn X1 _ ht _ _ _ _ (fun _ _ z=>z) ?_))
 refine wpAny_bind (wpAny_mono (hq _ (h.objs.size+1) ⟨kk,Nt (JD _),h.objs.size,by rw [RF,← Pw],Nt (dX _),by rw [Ym,← Wz]⟩) (fun r s' z=>?_) fun _ _ z=>z)
 obtain ⟨rfl,z⟩:=z
 wp_walk
 exact z
theorem Az {Q:Value→Shared→Prop} (X:K.In h) (xc:XC K C tl) (hi:findIn K (.ref C) "__init__" = some (some (.ref fI))) (ht:typeIn K (.ref fI)=some (.type "function"))
  (hq:∀ h' e,Heap.MadeExcOf h h' e (.ref C) rest→wpAny (model prog w) (A.under (.builtin "type.__call__" ⟨.ref C :: rest,[]⟩)) (call (.ref fI) (.ref e :: rest)) (fun r s'=>r = .none∧Q (.ref e) s') E ⟨h',g,d,t,os⟩) (hr:rest.length≤sizeLine) :
  wpAny (model prog w) A (call (.ref C) rest) Q E ⟨h,g,d,t,os⟩:=by
 obtain ⟨nm,q,N,bs,sn,sub,ab,col,dd,k0,k1,k2,k3,k5,oK⟩:=id xc.obj
 have oC:=X _ _ oK
 have l1:=tc_lookup
 have l2:=tc_bind (.ref C)
 have lT:(⟨h,g,d,t,os⟩:Shared).TypeIs (.ref C) "type":=⟨_,oC,rfl⟩
 refine wpAny_call (codeAny_of_tree ?_)
 show wpAny _ _ (callAny (.ref C) _) _ _ _
 repeat (any_goals (first | assumption | with_reducible refine wpAny_loadPart_at oC ?_ | wp_step))
 refine ⟨rfl,?_⟩
 exact codeAny_call_builtin_at (Q5 _ (by decide +kernel)) entry_typeCall (wpAny_check_type_call_sub oC (xE X xc hi ht (fun h' e m=>hq h' e m) hr))
end
end EX
namespace EX
open PySem PySem.Spec PySem.Calls PyProof.Rows L2 Builtin Builtin.ObjectAttr
open PySem.W (findIn typeIn clsIn subIn mroIn specialIn takesIn looks_findIn looks_typeIn looks_subIn looks_clsIn looks_mroIn looks_find Looks InstAt lookIn findObj)
structure XF (K:PySem.W.Frag) (C:Addr):Prop where
 ga:findIn K (.ref C) "__getattribute__" = some (some (.builtin "BaseException.__getattribute__"))
 hk:findIn K (.ref C) "__getattr__" = some none
 sa:findIn K (.ref C) "__setattr__" = some (some (.builtin "object.__setattr__"))
 pl:findIn K (.ref C) "place" = some none
 cl:findIn K (.ref C) "__class__" = some (some (.builtin "object.__class__"))
 sub:subIn K (.ref C) (.type "BaseException")=some true
 ob:mroIn K C (.type "object")=some true
 cg:specialIn K (.builtin "object.__class__") "__get__" = some (some (.builtin "getset_descriptor.__get__"))
 ct:takesIn K (.builtin "object.__class__")=some true
section
variable {prog:Program} {w:World} {A:Around} {E:Value→Shared→Prop} {s:Shared} {K:PySem.W.Frag} {C e:Addr} {oe:Obj} {od:Option Obj} {name:Str} {tl:List Addr}
theorem Jb {tk:Tok} {fill expr:Bool} {Q:Value→Shared→Prop} (X:K.In s.heap) (f:XF K C) (I:InstAt s.heap e oe C od)
  (h:wpAny (model prog w) A.in1 (Builtin.«object.__getattribute__» ⟨[.ref e,.str name tk],[]⟩) (fun fin s'=>match fin with | .done (.ret v)=>wpAny (model prog w) A (handedOut v) Q E s' | _=>False) (fun _ _=>False) s) :
  wpAny (model prog w) A (getAttrBy (.ref e) (.str name tk) fill expr) Q E s:=by
 have ex:=F.excAttr_ValueError.ga
 unfold getAttrBy
 refine wpAny_holding (wpAny_bind (I.type.here (wpAny_bind ((looks_findIn X f.ga).here ?_))))
 dsimp only
 have n1:(Value.builtin "BaseException.__getattribute__" == Value.builtin "object.__getattribute__")=false:=by decide +kernel
 rw [show (onTheHeap (Value.ref C) && Value.builtin "BaseException.__getattribute__" == Value.builtin "object.__getattribute__")=false from by rw [n1,Bool.and_false],if_neg (by decide)]
 unfold getAttrByItsOwn
 have hb:Looks (model prog w) s.heap (hookBefore (.ref C)) none:=PySem.W.looks_hook X (by show findIn K (.ref C) "__getattr__" = some none; exact f.hk)
 refine wpAny_bind (hb.here (wpAny_bind (wpAny_attempt (wpAny_holding ?_))))
 unfold callGetattribute
 rw [show (expr && onTheHeap (Value.builtin "BaseException.__getattribute__"))=false from Bool.and_false _,if_neg (by decide)]
 unfold boundAndCalled
 rw [ex.bind]
 refine wpAny_bind (wpAny_pure ?_)
 show wpAny _ _ (call (.builtin "BaseException.__getattribute__") [.ref e,.str name tk]) _ _ _
 refine wpAny_call (codeAny_call_builtin ex.plain F.entry_bexc_ga ?_)
 refine @PySem.W.check_slot (model prog w) _ _ s "BaseException.__getattribute__" "BaseException" "__getattribute__" (.ref e) [.str name tk] [] _ (by decide +kernel) (by decide +kernel) (I.type.andThen (looks_subIn X f.sub)) (F.args_bexc_ga _ _) ?_
 refine wpAny_mono h (fun fin s' z=>?_) fun _ _ z=>z.elim
 rcases fin with (_ | _ | _ | _) | _ <;> first | exact z | exact z.elim
theorem vD {tk:Tok} {r:Found} {Q:PySem.Fin→Shared→Prop} (L:Looks (model prog w) s.heap (find (.ref e) (.ref C) name) r) (I:InstAt s.heap e oe C od)
  (h:wpAny (model prog w) A (match r with | .value v=>ret v | .bind g a=>bindTo g a (.ref e) (.ref C) | .missing=>pure (.done (.ret .none))) Q E s) (hr:r≠.missing) :
  wpAny (model prog w) A (Builtin.«object.__getattribute__» ⟨[.ref e,.str name tk],[]⟩) Q E s:=by
 refine wpAny_bind (wpAny_pure (wpAny_bind (wpAny_pure (wpAny_bind (I.type.here (wpAny_bind (L.here ?_)))))))
 cases r with
 | value v=>exact h
 | bind g a=>exact h
 | missing=>exact absurd rfl hr
theorem AA {v:Value} {dx:Addr} {mA:Str→Option Value} {expr:Bool} {Q:Value→Shared→Prop} (X:K.In s.heap) (f:XF K C) (hd:(clsIn K C).any (·.hasDict)=true) (he:s.heap.get? e=some oe) (hc:oe.cls = .ref C) (Fx:PySem.W.notCls oe=true) (Yo:oe.dict=some dx)
  (hn:s.heap.Ns1 dx mA) (hv:mA "place" = some v) (hh:PySem.W.handedIn v=true) (h:Q v { s with toks:=s.toks+1 }):wpAny (model prog w) A (getAttr (.ref e) "place" expr) Q E s:=by
 obtain ⟨oD,es,ep,h1,h2,h3,h4,h5⟩:=id hn
 have I:InstAt s.heap e oe C (some oD):=⟨he,hc,Fx,by rw [Yo]; exact h1⟩
 obtain ⟨cd,q1,q2⟩:=PySem.W.any_some hd
 have lk:lookIn "place" oD=some (some v):=by
  have q:=h5 "place"
  rw [hv] at q
  unfold nsFind findBy at q
  unfold lookIn
  rw [h2]
  dsimp only
  rw [← Array.find?_toList] at q
  cases z:es.toList.find? (·.key.isStr "place") with
  | none=>rw [z] at q; cases q
  | some en=>rw [z] at q; cases q; rfl
 have hf:findObj K C (some oD) "place" = some (.value v):=by
  unfold findObj PySem.W.ownOf
  rw [q1,MY,f.pl,MY]
  simp only [MY,q2,if_true,lk]
 unfold getAttr
 refine wpAny_bind (wpAny_mkText ?_)
 refine Jb (s:={ s with toks:=s.toks+1 }) X f I ?_
 refine vD (s:={ s with toks:=s.toks+1 }) (looks_find X I hf) I (wpAny_pure ?_) (by intro z; cases z)
 show wpAny _ _ (handedOut v) _ _ _
 rw [PySem.W.handedOut_of hh]; exact wpAny_pure h
theorem get_cls {Q:Option Value→Shared→Prop} (X:K.In s.heap) (f:XF K C) (B':(clsIn K C).isSome=true) (I:InstAt s.heap e oe C od) (h:Q (some (.ref C)) { s with toks:=s.toks+1 }):wpAny (model prog w) A (getAttr? (.ref e) "__class__") Q E s:=by
 have hf:findObj K C od "__class__" = some (.bind (.builtin "getset_descriptor.__get__") (.builtin "object.__class__")):=by
  obtain ⟨cd,hc⟩:=R3.mp B'
  unfold findObj
  rw [hc,MY,f.cl,MY]
  simp only [f.cg,MY,f.ct]
 unfold getAttr? getAttrBy?
 refine wpAny_bind (wpAny_mkText (wpAny_bind (wpAny_attempt ?_)))
 refine Jb (s:={ s with toks:=s.toks+1 }) X f I ?_
 refine vD (s:={ s with toks:=s.toks+1 }) (looks_find X I hf) I ?_ (by intro z; cases z)
 show wpAny _ _ (holding [_] (call _ [_,.ref e,.ref C]) >>= ret) _ _ _
 refine wpAny_bind (wpAny_holding (wpAny_call (PySem.W.class_get (s:={ s with toks:=s.toks+1 }) X I f.ob ?_)))
 refine wpAny_pure ?_
 show wpAny _ _ (handedOut (.ref C)) _ _ _
 exact wpAny_pure (wpAny_pure h)
end
end EX
namespace EX
open PySem PySem.Spec PySem.Calls PyProof.Rows L2 Builtin Builtin.ObjectAttr
open PySem.W (findIn typeIn clsIn subIn mroIn specialIn takesIn looks_findIn looks_typeIn looks_subIn looks_clsIn looks_mroIn looks_find Looks InstAt lookIn findObj kitOne KitX)
section
variable {K:PySem.W.Frag} {C e:Addr} {oe:Obj} {tl:List Addr}
theorem XC.cls (xc:XC K C tl):∃ cd,clsIn K C=some cd∧cd.hasDict=true∧cd.mro = .ref C :: (tl.map .ref ++ E4):=by
 obtain ⟨nm,q,N,bs,sn,sub,ab,col,dd,k0,k1,k2,k3,k5,oK⟩:=xc.obj
 exact ⟨_,by unfold clsIn; rw [oK],rfl,rfl⟩
theorem DF (xc:XC K C tl) (f:XF K C):KitX K (.ref e) (.ref C) (fun h=>∃ oe od,InstAt h e oe C od) where
 ty:=fun _ _ _ ⟨_,_,I⟩=>I.type
 it:=fun _ h X _=>by
  obtain ⟨nm,q,N,bs,sn,sub,ab,col,dd,k0,k1,k2,k3,k5,oK⟩:=xc.obj
  intro A' Q' E' s' k q
  unfold isType loadHead
  exact wpAny_bind (wpAny_loadPart (k _ _ (X _ _ oK)) (wpAny_pure q))
 ne:=fun h tp IU aP n sl X Yp=>by
  obtain ⟨nm,q,N,bs,sn,sub,ab,col,dd,k0,k1,k2,k3,k5,oK⟩:=xc.obj
  refine Bool.eq_false_iff.mpr fun z=>?_
  have z:C=tp:=Value.ref.inj (beq_iff_eq.mp z)
  subst z
  have z2:=Option.some.inj ((X _ _ oK).symm.trans Yp)
  exact absurd (Value.type.inj (congrArg Obj.cls z2)) (by decide)
 ca:=fun X ⟨_,_,I⟩ k=>get_cls X f (by obtain ⟨cd,z,_⟩:=xc.cls; rw [z]; rfl) I k
variable {prog:Program} {w:World} {A:Around} {E:Value→Shared→Prop} {s:Shared} {od:Option Obj}
theorem G9 {c:Value} {b:Bool} {Q:Value→Shared→Prop} (X:K.In s.heap) (xc:XC K C tl) (f:XF K C) (I:InstAt s.heap e oe C od) (hk:kitOne K (.ref C) c=some b) (h:∀ tk,Q (.bool b) { s with toks:=tk }) :
  wpAny (model prog w) A (call (.builtin "isinstance") [.ref e,c]) Q E s :=
 Ic (DF xc f) X ⟨oe,od,I⟩ hk (by intro z; cases z) h
theorem AB {rest:List Value} {vs:Array Value} {Q:Value→Shared→Prop} (X:K.In s.heap) (xc:XC K C tl) (he:s.heap.get? e=some oe) (hc:oe.cls = .ref C) (hd:oe.data = .fields vs) {t0:Addr} (h0:vs[0]?=some (.ref t0)) (hr:rest.length≤sizeLine)
  (h:∀ h',(∀ b o,b≠e→s.heap.get? b=some o→h'.get? b=some o)→h'.get? e=some (oe.mapFields (·.setIfInBounds 0 (.ref s.heap.objs.size)))→Q .none { s with heap:=h' }) :
  wpAny (model prog w) A (call (.builtin "ValueError.__init__") (.ref e :: rest)) Q E s:=by
 obtain ⟨hp,g,dr,t,os⟩:=s
 dsimp only at X he h
 obtain ⟨nm,q,N,bs,sn,sub,ab,col,dd,k0,k1,k2,k3,k5,oK⟩:=xc.obj
 have oC:=X _ _ oK
 have T:=pG X xc.tail
 have F:=QY
 refine wpAny_call (codeAny_call_builtin F.init.plain F.initEntry (wpAny_check_init_subT F T oC he hc ?_))
 have hz:=(RY.mp h0).1
 unfold Builtin.«BaseException.__init__»
 repeat (any_goals (first | with_reducible refine wpAny_field (de _ he) hd h0 ?_ | with_reducible refine wpAny_setField (de _ he) hd hz ?_ | wp_step))
 refine h _ (fun b o nb q=>?_) ?_
 · rw [HZ _ _ (Ne.symm nb)]; exact de _ q
 · rw [Jt _ (de _ he) (Nq (Jw hd _))]
end
section
variable {prog:Program} {w:World} {A:Around} {E:Value→Shared→Prop} {s:Shared} {K:PySem.W.Frag} {C e:Addr} {oe:Obj} {tl:List Addr}
theorem rN (self:Value):∀ tl:List Addr,refuseLoop self "__setattr__" (tl.map .ref ++ E4)=pure ()
 | []=>F.store_ValueError.passes self
 | a :: tl=>by rw [iF,List.cons_append,refuseLoop_ref]; exact rN self tl
theorem G_ {v:Value} {tk:Tok} {vs:Array Value} {R:Result→Shared→Prop} (X:K.In s.heap) (xc:XC K C tl) (f:XF K C) (he:s.heap.get? e=some oe) (hc:oe.cls = .ref C) (hd:oe.data = .fields vs) (hn:oe.dict=none)
  (h:∀ h' CT,(∀ b o,b≠e→s.heap.get? b=some o→h'.get? b=some o)→h'.get? e=some { oe with dict:=some s.heap.objs.size }→h'.Ns1 s.heap.objs.size (fun y=>if y="place" then some v else none)→R (.ok (.ret .none)) { s with heap:=h',toks:=CT }) :
  codeAny (model prog w) A (.call (.builtin "object.__setattr__") ⟨[.ref e,.str "place" tk,v],[]⟩) R s:=by
 have SF:=F.store_ValueError
 obtain ⟨cd,q1,q2,q3⟩:=xc.cls
 have I:InstAt s.heap e oe C none:=⟨he,hc,by unfold PySem.W.notCls; rw [hd],by rw [hn]; trivial⟩
 refine codeAny_call_builtin SF.slot.plain SF.entry (@PySem.W.check_slot (model prog w) _ _ s "object.__setattr__" "object" "__setattr__" (.ref e) [.str "place" tk,v] [] _ SF.kind SF.split (I.type.andThen (looks_mroIn X f.ob)) (SF.args (.ref e) (.str "place" tk) v) ?_)
 have lm:Looks (model prog w) s.heap (mroOf (.ref C)) cd.mro:=(looks_clsIn X q1).andThen .now
 rw [PySem.W.osa_eq,refuse_eq]
 refine wpAny_bind (wpAny_bind (I.type.here (wpAny_bind (lm.here ?_))))
 rw [q3,refuseLoop_ref,rN]
 refine wpAny_pure (wpAny_bind (I.type.here (wpAny_bind ((looks_findIn X f.pl).here (wpAny_bind (wpAny_pure ?_))))))
 unfold storeInOwnDict
 refine wpAny_bind (wpAny_pure (wpAny_bind ?_))
 show wpAny _ _ (instanceDict e true) _ _ _
 unfold instanceDict
 obtain ⟨oc,Z7,Z8,yy⟩:=oe
 dsimp only at hc hd hn
 subst hc hd hn
 refine wpAny_bind (wpAny_loadPart he ?_)
 dsimp only
 refine wpAny_bind ((looks_clsIn X q1).here ?_)
 rw [q2]
 obtain ⟨hp,g,dr,t,os⟩:=s
 dsimp only at X he h
 have e1:(hp.push { cls:=.type "dict",data:=.dict #[] }).get? e=some ⟨.ref C,none,.fields vs,yy⟩:=de _ he
 have ne:e≠hp.objs.size:=gF (dG he)
 refine wpAny_bind (wpAny_alloc' (wpAny_bind (wpAny_update' e1 ?_)))
 refine wpAny_pure ?_
 generalize hu:(hp.push { cls:=.type "dict",data:=.dict #[] }).update e (fun o=>{ o with dict:=some hp.objs.size })=h1
 have g1:h1.get? hp.objs.size=some { cls:=.type "dict",data:=.dict #[] }:=by rw [← hu,Heap.get?_update_ne _ _ _ _ ne.symm]; exact Heap.get?_push_at rfl rfl
 have g2:h1.get? e=some ⟨.ref C,some hp.objs.size,.fields vs,yy⟩:=by rw [← hu]; exact Jt _ e1 rfl
 have nd:h1.Ns hp.objs.size (fun _=>none):=⟨_,#[],_,g1,rfl,fun a z=>absurd z (by simp),fun _=>rfl⟩
 show wpAny _ _ (storeInDict hp.objs.size (.str "place" tk) "place" v) _ _ _
 unfold storeInDict newKeyGuard
 refine wpAny_bind (wpAny_pure (wpAny_bind (wpAny_nsSet1 (Heap.Ns1.of_empty nd) fun h' JJ sb=>?_)))
 obtain ⟨oD,Z9,Z_,z1,z2,z3⟩:=JJ.count (Within.cons "place" v Within.nil)
 refine wpAny_bind (wpAny_lookBehind z1 (by rw [z2]; exact pastItsLine_dict (mD z3 (by rw [Jz,List.length_nil,sizeLine_eq]; omega))) ?_)
 refine wpAny_pure (h h' _ (fun b o nb q=>?_) ((sb.2 e ne).trans g2) JJ)
 have Yq:b≠hp.objs.size:=gF (dG q)
 refine (sb.2 b Yq).trans ?_
 rw [← hu,Heap.get?_update_ne _ _ _ _ nb]
 exact de _ q
theorem AD {v:Value} {vs:Array Value} {Q:Unit→Shared→Prop} (X:K.In s.heap) (xc:XC K C tl) (f:XF K C) (he:s.heap.get? e=some oe) (hc:oe.cls = .ref C) (hd:oe.data = .fields vs) (hn:oe.dict=none)
  (h:∀ h' CT,(∀ b o,b≠e→s.heap.get? b=some o→h'.get? b=some o)→h'.get? e=some { oe with dict:=some s.heap.objs.size }→h'.Ns1 s.heap.objs.size (fun y=>if y="place" then some v else none)→Q () { s with heap:=h',toks:=CT }) :
  wpAny (model prog w) A (setAttr (.ref e) "place" v) Q E s:=by
 have I:InstAt s.heap e oe C none:=⟨he,hc,by unfold PySem.W.notCls; rw [hd],by rw [hn]; trivial⟩
 have L:Looks (model prog w) s.heap (specialOf (.ref e) "__setattr__") (some (.builtin "object.__setattr__")):=I.type.andThen (looks_findIn X f.sa)
 unfold setAttr callSpecial?
 refine wpAny_bind (wpAny_mkText (wpAny_bind (wpAny_bind (L.here (s:={ s with toks:=s.toks+1 }) (wpAny_holding ?_)))))
 rw [F.store_ValueError.slot.bind]
 refine wpAny_bind (wpAny_pure (wpAny_bind ?_))
 refine wpAny_call (G_ (s:={ s with toks:=s.toks+1 }) (vs:=vs) X xc f he hc hd hn fun h' CT k1 k2 k3=>?_)
 exact wpAny_pure (wpAny_pure (h h' CT k1 k2 k3))
end
end EX
namespace EX
open PySem PySem.Spec PySem.Calls PyProof.Rows L2
open PySem.W (findIn typeIn clsIn subIn mroIn specialIn takesIn looks_findIn Looks InstAt)
theorem G':∀ n:Fin 101,((toString (n.val:Int):String):Str).length≤8:=by decide +kernel
theorem DG {H:Hp} {a:Addr} {o:HO} (h:H a=some o):upd H a o=H:=by
 funext b
 unfold upd
 split
 · rename_i z; rw [z,h]
 · rfl
section
variable {X:Cx}
def Yr (tv:TE):TE:=fun σ H Q=>tv σ H fun v H1=>∃ i:Int,v = .int i∧0≤i∧i≤100∧∀ x,Q (.str x) H1
theorem Jc {a b:Str} {j1 j2:Nat} {p1 p2 p3 p:Pos} {value:Expr} {tv:TE} (hv:PE X value tv) (hl:a.length+b.length≤1000:=by decide +kernel) :
  PE X (.JoinedStr [.Constant (.str a) j1 p1,.FormattedValue value (-1) none p2,.Constant (.str b) j2 p3] p) (Yr tv):=by
 intro pins s σ H Q I h
 refine wpAny_JoinedStr ?_
 show Joins _ _ _ [eval (.Constant (.str a) j1 p1) X.env,eval (.FormattedValue value (-1) none p2) X.env,eval (.Constant (.str b) j2 p3) X.env] _ _ _
 refine Calls.Constant_str ⟨a,_,rfl,?_,?_⟩
 · rw [strLen_append]; rw [sizeLine_eq]; show (0:Nat)+_≤_; omega
 refine wpAny_FormattedValue_plain (bX (hv pins _ σ H _ (I.tok _) h) fun u s1 ⟨v,H1,I1,r,i,ev,h0,h1,q⟩=>?_)
 subst ev
 obtain ⟨t,rfl⟩:=r
 have Uz:i.natAbs.log2 < 1920:=by
  have:i.natAbs≤100:=by omega
  exact Nat.lt_of_le_of_lt (Nat.log2_le_self _) (by omega)
 have hi:((toString i:String):Str).length≤8:=by
  have:=G' ⟨i.toNat,by omega⟩
  rw [show ((i.toNat:Nat):Int)=i from Int.toNat_of_nonneg h0] at this
  exact this
 refine wpAny_formatField_int Uz ⟨_,_,rfl,?_,?_⟩
 · rw [strLen_append,strLen_append,sizeLine_eq]; show (0:Nat)+_+_≤_; omega
 refine Calls.Constant_str ⟨b,_,rfl,?_,?_⟩
 · rw [strLen_append,strLen_append,strLen_append,sizeLine_eq]; show (0:Nat)+_+_+_≤_; omega
 refine ⟨?_,.str _,H1,I1.tok _,⟨_,rfl⟩,q _⟩
 rw [strLen_append,strLen_append,strLen_append,sizeLine_eq]; show (0:Nat)+_+_+_≤_; omega
end
abbrev WA (C:Addr) (dd:Option Addr) (t:Addr):Obj:=⟨.ref C,dd,.fields #[.ref t,.none,.none,.none,.bool false,.none],#[]⟩
def wb (C e:Addr) (dd:Option Addr):Heap→Prop:=fun h=>∃ t,h.get? e=some (WA C dd t)
theorem DH {P:Program} {w:World} {H:Hp} {h:Heap} {C e t:Addr} {dd:Option Addr} (q:h.get? e=some (WA C dd t)):bP P w H h e (.ext (wb C e dd)) :=
 ⟨⟨t,q⟩,⟨_,q⟩,fun _ _ ⟨t,a⟩ k=>⟨t,k _ a⟩⟩
structure XS (K:PySem.W.Frag) (S:Addr):Prop where
 ga:specialIn K (.ref S) "__getattribute__" = some (some (.builtin "type.__getattribute__"))
 rd:PySem.W.readsIn K S (.type "type")=true
 fi:PySem.W.findCls K (.ref S) (.type "type") "__init__" = some (.val (.builtin "ValueError.__init__"))
theorem pH {fs ex:List Addr} {H H1:Hp} {h h':Heap} {a:Addr} {o:HO} (u:Un fs ex H H1 h h') (n:H1 a=none) (f:h.get? a=none):Un fs ex H (upd H1 a o) h h' where
 keep:=u.keep
 slot:=u.slot
 free:=fun b ob q z x=>by rw [aE (fun e=>by subst e; rw [f] at q; cases q)]; exact u.free b ob q z x
 there:=u.there
 iy:=fun b xs q=>by have:=u.iy b xs q; rw [aE (aW this n)]; exact this
 gG:=fun b ob xs q=>by have:=u.gG b ob xs q; rw [aE (aW this n)]; exact this
 iA:=fun b ps q=>by obtain ⟨m,this⟩:=u.iA b ps q; exact ⟨m,by rw [aE (aW this n)]; exact this⟩
theorem mw {P:Program} {w:World} {H:Hp} {h:Heap} {a:Addr} {o:HO} (ok:jD P w H h) (n:H a=none) (new:bP P w (upd H a o) h a o):jD P w (upd H a o) h:=fun b u q=>by
 by_cases e:b=a
 · subst e; rw [aT] at q; cases q; exact new
 · rw [aE e] at q
   exact (ok b u q).mZ (fun _ _ _ z=>z) (fun c z=>by rw [aE (aW z n)]; exact z) fun c xs z=>by rw [aE (aW z n)]; exact z
section
variable {X:Cx} {C S:Addr} {tl:List Addr}
def L1 (C:Addr) (ta:TA):TE:=fun σ H Q=>ta σ H fun vs H1=>∃ e x,vs=[.ref e,.str x]∧H1 e=some (.ext (wb C e none))∧Q .bu H1
theorem vE {x:Str} {e0:Expr} {es:List Expr} {p1 p2 pos:Pos} {ta:TA} (xs:XS X.K S) (hg:Gl X x) (hm:X.mg x=some (.ref S)) (xc:XC X.K C tl) (ha:PA X (e0 :: es) ta) (hd:gg x:=by decide)
  {pl:Sem Bool} (ht:eval (.Call (.Attribute (.Name x p1) "__init__" p2) (e0 :: es) [] pos) X.env=(do
   let ov ← eval (.Name x p1) X.env
   standAt p2.atName
   let (f,first) ← holding [ov] (getMethod ov "__init__" pl)
   callWith pos f first (backTo pos (starEach (e0 :: es) X.env)) (backToKw pos (keywordEach [] X.env))):=by rfl)
  (BQ:starEach (e0 :: es) X.env=(false,eval e0 X.env) :: starEach es X.env:=by rfl) (fE:(backTo pos (starEach es X.env)).any (·.1)=false:=by rfl) :
  PE X (.Call (.Attribute (.Name x p1) "__init__" p2) (e0 :: es) [] pos) (L1 C ta):=by
 intro pins s σ H Q I h
 refine PySem.W.methodCall_KW (pl:=pl) (jf I hg hm ?_ hd) ht
 refine PySem.W.method_cls I.lq xs.ga (PySem.W.cls_value I.lq xs.rd xs.fi (by decide +kernel) ?_)
 refine callWith_builtin1 (bX (ha pos pins _ σ H _ (I.tok _) h) fun us s1 ⟨vs,H1,I1,r,e,y,ev,eh,q⟩=>?_) BQ fE
 subst ev
 obtain ⟨u1,r1,rfl,z1,r⟩:∃ u1 r1,us=u1 :: r1∧RelV (.ref e) u1∧Vals [.str y] r1:=by cases r with | cons a b=>exact ⟨_,_,rfl,a,b⟩
 obtain ⟨u2,r2,rfl,z2,r⟩:∃ u1 r2,r1=u1 :: r2∧RelV (.str y) u1∧Vals [] r2:=by cases r with | cons a b=>exact ⟨_,_,rfl,a,b⟩
 cases r
 obtain rfl:u1=Value.ref e:=z1
 obtain ⟨⟨t,oe⟩,_,_⟩:=I1.bC e _ eh
 refine AB I1.lq xc oe rfl rfl rfl (by show (1:Nat)≤sizeLine; rw [sizeLine_eq]; omega) fun h' k1 k2=>?_
 refine ⟨.bu,H1,?_,rfl,q⟩
 have:=I1.write (o:=.ext (wb C e none)) (h':=h') (t':=s1.toks) (by rw [eh]; trivial) (.inl rfl) k1 ⟨_,k2⟩ (DH (t:=s1.heap.objs.size) k2)
 rw [DG eh] at this
 exact this
def Ys (C:Addr) (to tv:TE):TS:=fun D σ H=>tv σ H fun y H1=>to σ H1 fun x H2=>∃ e i,y = .int i∧x = .ref e∧H2 e=some (.ext (wb C e none)) ∧
 ∀ dx,H2 dx=none→dx≠e→D.nx σ (upd (upd H2 e (.ext (wb C e (some dx)))) dx (.xd [("place",.int i)]))
theorem Jd {o value:Expr} {pos pos':Pos} {to tv:TE} (xc:XC X.K C tl) (f:XF X.K C) (ho:PE X o to) (hv:PE X value tv) (hs:swapsWith value (some (.Attribute o "place" pos')) pos.line X.env=pure false:=by rfl) :
  PS X (.Assign [.Attribute o "place" pos'] value pos) (Ys C to tv):=by
 intro pins s σ H D I h
 refine plainObj_wpAny_Assign_Attribute (bX (hv pins s σ H _ I h) fun u s1 ⟨y,H1,I1,ry,q⟩=>bX (ho pins s1 σ H1 _ I1 q) fun ov s2 ⟨x,H2,I2,rx,e,i,ey,ex,eh,q2⟩=>?_) hs
 subst ey ex
 obtain rfl:ov=Value.ref e:=rx
 obtain ⟨t,rfl⟩:=ry
 obtain ⟨⟨t0,oe⟩,_,_⟩:=I2.bC e _ eh
 refine AD I2.lq xc f oe rfl rfl rfl fun h' CT k1 k2 k3=>?_
 have ne:s2.heap.objs.size≠e:=Bu (dG oe)
 have fr:H2 s2.heap.objs.size=none:=I2.bC.fresh (dX _)
 refine ⟨σ,_,?_,q2 s2.heap.objs.size fr ne⟩
 have hw:=I2.bC.write (o':=.ext (wb C e (some s2.heap.objs.size))) (h':=h') (e:=e) (by rw [eh]; trivial) (.inl rfl) k1 ⟨_,k2⟩ (DH (t:=t0) k2)
 have uw:=Un.write (fs:=X.fs) (ex:=[]) (o:=.ext (wb C e (some s2.heap.objs.size))) (h':=h') (H:=H2) (x:=e) (e:=e) (by rw [eh]; trivial) (.inl rfl) k1 ⟨_,k2⟩
 have n1:upd H2 e (.ext (wb C e (some s2.heap.objs.size))) s2.heap.objs.size=none:=by rw [aE ne]; exact fr
 refine I2.un (t':=CT) (pH uw n1 (Nt (dX _))) (mw hw n1 ⟨_,k3,fun y=>?_⟩)
 by_cases z:y="place"
 · subst z; show jQ (some (V.int i)) (some (Value.int i t)); exact ⟨t,rfl⟩
 · show jQ (List.lookup y [("place",V.int i)]) _
   rw [if_neg z,Fb,beq_eq_false_iff_ne.mpr z]
   trivial
end
end EX
namespace EX
open PySem PySem.Spec PySem.Calls PyProof.Rows L2
open PySem.W (findIn typeIn Looks InstAt)
def AE (P:Program) (w:World):wA:=fun outer H s E v s'=>∃ e C dd T H',v = .ref e∧s'.os=s.os∧AllBare s'.gens∧Un (kn outer) [] H H' s.heap s'.heap∧jD P w H' s'.heap∧Flt s'.heap e C dd (some T) .none ∧
 s.heap.get? e=none∧s.heap.get? T=none∧H' e=none∧H' T=none∧E (.ref C) dd H'
def del (H:Hp) (e:Addr):Hp:=fun b=>if b=e then none else H b
theorem pI {H:Hp} {e:Addr}:del H e e=none:=by unfold del; rw [if_pos rfl]
theorem hY {H:Hp} {e b:Addr} (h:b≠e):del H e b=H b:=by unfold del; rw [if_neg h]
theorem L3 {fs ex:List Addr} {H:Hp} {h:Heap} {e:Addr} {φ:Heap→Prop} (q:H e=some (.ext φ)):Un fs ex H (del H e) h h where
 keep:=fun _ _ z _ _ _=>z
 slot:=fun b o z _ _ _=>⟨o.slots,z⟩
 free:=fun b o _ z _=>by by_cases y:b=e; rw [y]; exact pI; rw [hY y]; exact z
 there:=fun b o z _=>⟨o,z⟩
 iy:=fun b xs z=>by rw [hY (fun y=>by rw [y,q] at z; cases z)]; exact z
 gG:=fun b o u z=>by rw [hY (fun y=>by rw [y,q] at z; cases z)]; exact z
 iA:=fun b ps z=>⟨#[],by rw [hY (fun y=>by rw [y,q] at z; cases z),z]; simp⟩
theorem Ha {P:Program} {w:World} {H:Hp} {h:Heap} {e:Addr} {φ:Heap→Prop} (ok:jD P w H h) (q:H e=some (.ext φ)):jD P w (del H e) h:=fun b u z=>by
 have n:b≠e:=fun y=>by rw [y,pI] at z; cases z
 rw [hY n] at z
 exact (ok b u z).mZ (fun _ _ _ y=>y) (fun c y=>by rw [hY (fun x=>by rw [x,q] at y; cases y)]; exact y) fun c xs y=>by rw [hY (fun x=>by rw [x,q] at y; cases y)]; exact y
theorem Hb {h:Heap} {e C:Addr} {dd:Option Addr} (q:wb C e dd h):Flt h e C dd none .none:=let ⟨t,a⟩:=q; ⟨_,_,a,rfl,rfl,rfl,by simp,rfl⟩
theorem kZ {P:Program} {w:World} {H:Hp} {h:Heap} {a:Addr} {o:HO} (x:bP P w H h a o):∃ u,h.get? a=some u:=by
 cases o with
 | lst xs=>obtain ⟨_,_,_,_,e⟩:=x; exact ⟨_,e⟩
 | tup xs=>obtain ⟨_,_,_,_,e,_⟩:=x; exact ⟨_,e⟩
 | dK aZ=>obtain ⟨_,_,_,_,o,_,_,e,_⟩:=x; exact ⟨_,e⟩
 | dT aZ=>obtain ⟨_,_,_,_,o,_,_,e,_⟩:=x; exact ⟨_,e⟩
 | set S n=>obtain ⟨o,_,_,_,e,_⟩:=x; exact ⟨_,e⟩
 | ins C dx fs=>obtain ⟨_,_,_,e,_⟩:=x; exact ⟨_,e⟩
 | own y=>exact x
 | xd fs=>obtain ⟨_,⟨_,_,_,e,_⟩,_⟩:=x; exact ⟨_,e⟩
 | Q7 lo hi=>obtain ⟨_,_,_,e⟩:=x; exact ⟨_,e⟩
 | ue ob u=>exact ⟨_,x.1⟩
 | Ih ps=>exact ⟨_,show h.get? a=some _ from x⟩
 | met f y=>exact ⟨_,show h.get? a=some _ from x⟩
 | ext φ=>exact x.2.1
theorem L4 {P:Program} {w:World} {K:PySem.W.Frag} {mg:Str→Option Value} {base:Heap} {N:List Str} {qual:Str} {scope:Scope} {f:Addr} {cd:Value} {A:Around} {outer:List Env} {s s':Shared} {H H':Hp} {E:XK} {pins:List (Addr×Obj)} {σ:L2.St}
  {e C:Addr} {dd T:Option Addr} (I:Inv (dI (AE P w) P w K mg base N qual scope f cd A outer s H E) pins σ H' s') (F:Flt s'.heap e C dd T .none) (he:H' e=none) (hT:∀ a,T=some a→H' a=none)
  (ne:s.heap.get? e=none) (nT:∀ a,T=some a→s.heap.get? a=none) (hE:E (.ref C) dd H'):(dI (AE P w) P w K mg base N qual scope f cd A outer s H E).xe (.ref e) s':=by
 have st:=I.stack
 have fr:=I.nG
 have E3:=I.ok.frames
 have nf:=F.Fg st
 refine DE E3 st rfl F fun h2 T2 F2 n2 k=>?_
 have lt:∀ b o,s.heap.get? b=some o→b≠s.heap.objs.size:=fun b o q=>gF (dG q)
 have cn:∀ b o,s.heap.get? b=some o→b≠e∧T≠some b:=fun b o q=>⟨fun z=>by (rw [z,ne] at q; cases q),fun z=>by (rw [nT b z] at q; cases q)⟩
 have RG:∀ b,b∈kn (envOfC qual scope s.heap.objs.size f cd :: outer)→b=s.heap.objs.size∨b∈kn outer:=fun b hb=>by
  rcases dD.mp (show b∈s.heap.objs.size :: kn outer from hb) with z | z
  · exact .inl z
  · exact .inr z
 have u:Un (kn outer) [] H H' s.heap s'.heap:=I.base
 have hk:∀ b u,H' b=some u→b≠e∧T≠some b∧b∉kn (envOfC qual scope s.heap.objs.size f cd :: outer):=fun b u z=>⟨fun y=>by (rw [y,he] at z; cases z),fun y=>by (rw [hT b y] at z; cases z),fun y=>by (rw [fr b y] at z; cases z)⟩
 refine ⟨e,C,dd,T2,H',rfl,I.os,I.bare,⟨fun b o q n RH _=>?_,fun b o q n RH _=>?_,fun b o q n _=>u.free b o q n (by simp),fun b o q _=>?_,u.iy,u.gG,u.iA⟩,fun b u z=>?_,F2,ne,?_,he,?_,hE⟩
 · exact k.keep b o (u.keep b o q n RH (by simp)) (cn b o q).1 (cn b o q).2 fun z=>(RG b z).elim (lt b o q) RH
 · obtain ⟨sl,q1⟩:=u.slot b o q n RH (by simp)
   obtain ⟨yz,q2⟩:=k.any q1 (cn b o q).1 (cn b o q).2
   exact ⟨yz,q2⟩
 · obtain ⟨o1,q1⟩:=u.there b o q (by simp)
   obtain ⟨sl,q2⟩:=k.any q1 (cn b o q).1 (cn b o q).2
   exact ⟨_,q2⟩
 · refine (I.bC b u z).mZ (fun c v hc q=>?_) (fun _ y=>y) fun _ _ y=>y
   have hh:∃ u,H' c=some u:=by
    rcases hc with y | y
    · exact ⟨u,by rw [y]; exact z⟩
    · exact ⟨_,y⟩
   obtain ⟨u',y⟩:=hh
   obtain ⟨n1,Yt,n3⟩:=hk c u' y
   exact k.keep c v q n1 Yt n3
 · cases q:s.heap.get? T2 with
   | none=>rfl
   | some o =>
     obtain ⟨o1,q1⟩:=u.there T2 o q (by simp)
     rw [n2] at q1; cases q1
 · cases q:H' T2 with
   | none=>rfl
   | some o =>
     obtain ⟨o1,q1⟩:=kZ (I.bC T2 o q)
     rw [n2] at q1; cases q1
def RI (C:Addr):Sp:=fun vs H Q _=>∃ e i,vs=[.ref e,.int i]∧0≤i∧i≤100∧H e=some (.ext (wb C e none)) ∧
 ∀ dx,H dx=none→dx≠e→Q .bu (upd (upd H e (.ext (wb C e (some dx)))) dx (.xd [("place",.int i)]))
structure XP (P:Program) (w:World) (K:PySem.W.Frag) (mg:Str→Option Value) (base:Heap) (x:Str) (C:Addr) (k:Nat):Prop where
 m:mg x=some (.ref C)
 kp:PySem.W.keepIn K (.ref C)=true
 xc:∃ tl,XC K C tl
 init:∃ fI fd,findIn K (.ref C) "__init__" = some (some (.ref fI))∧typeIn K (.ref fI)=some (.type "function")∧Binds K fd ["self","place"] []∧cN P w K mg base iN k fI fd ["self","place"] (RI C)
section
variable {X:Cx} {C:Addr} {k:Nat} {x:Str}
def UA (C:Addr) (t:TA):TE:=fun σ H Q=>t σ H fun vs H1=>∃ i,vs=[.int i]∧0≤i∧i≤100∧∀ e dx,H1 e=none→H1 dx=none→dx≠e→Q (.ref e) (upd (upd H1 e (.ext (wb C e (some dx)))) dx (.xd [("place",.int i)]))
theorem L5 {a:Expr} {es:List Expr} {p pos:Pos} {t:TA} (xp:XP X.prog X.w X.K X.mg X.base x C k) (hr:bp (k+1) X.A) (hg:Gl X x) (ha:PA X (a :: es) t) (n6:gg x:=by decide)
  (he:starEach (a :: es) X.env=(false,eval a X.env) :: starEach es X.env:=by rfl) (fE:(backTo pos (starEach es X.env)).any (·.1)=false:=by rfl):PE X (.Call (.Name x p) (a :: es) [] pos) (UA C t):=by
 intro pins s σ H Q I h
 obtain ⟨tl,xc⟩:=xp.xc
 obtain ⟨fI,fd,hi,ht,hb,F⟩:=xp.init
 refine wpAny_Call_Name_kw (jf I hg xp.m ?_ n6)
 refine Q2 (h₀:=X.base) I.ok.mod.M5 xp.kp (bX (ha pos pins s σ H _ I h) fun us s1 ⟨vs,H1,I1,r,i,ev,h0,h1,q⟩=>⟨I1.lq,?_⟩) he fE
 subst ev
 obtain ⟨u1,r1,rfl,z1,r⟩:∃ u1 r1,us=u1 :: r1∧RelV (.int i) u1∧Vals [] r1:=by cases r with | cons a b=>exact ⟨_,_,rfl,a,b⟩
 cases r
 refine Az (g:=s1.gens) (d:=s1.drawn) (t:=s1.toks) (os:=s1.os) I1.lq xc hi ht (fun h' e hm=>?_) (by show (1:Nat)≤sizeLine; rw [sizeLine_eq]; omega)
 obtain ⟨t0,Pw,_,_⟩:=hm.there
 have n1:H1 e=none:=by
  cases q:H1 e with
  | none=>rfl
  | some o=>obtain ⟨u,z⟩:=kZ (I1.bC e o q); rw [hm.new] at z; cases z
 have I2:Inv X pins σ (upd H1 e (.ext (wb C e none))) { s1 with heap:=h' }:=I1.un (t':=s1.toks) (pH (Un.kept hm.keeps) n1 hm.new) (mw (I1.bC.kept hm.keeps) n1 (DH Pw))
 have r2:Vals [V.ref e,.int i] [Value.ref e,u1]:=.cons rfl (.cons z1 .nil)
 refine wpAny_call (codeAny_mono (F.run _ X.stack _ _ ⟨[Value.ref e,u1],[]⟩ [Value.ref e,u1] _ (fun v H2=>v = .bu∧Q (.ref e) H2) E0 (hr.make C [u1] []) (I2.Kn.make C [u1] []) (hb _ [Value.ref e,u1] I2.lq rfl) r2 ⟨e,i,rfl,h0,h1,aT,fun dx d1 d2=>⟨rfl,?_⟩⟩) fun r s' hq=>?_)
 · have d3:H1 dx=none:=by rw [aE d2] at d1; exact d1
   have:=q e dx n1 d3 d2
   rw [Fc]
   exact this
 · cases r with
   | error e=>exact False.elim hq
   | ok fl =>
     cases fl with
     | ret u =>
       obtain ⟨v,H2,I3,rv,rfl,q2⟩:=I2.after hq
       refine ⟨?_,.ref e,H2,I3,rfl,q2⟩
       exact rv
     | _=>exact False.elim hq
def L6 (X:Cx) (te:TE):TS:=fun _ σ H=>te σ H fun v H1=>∃ e C dd tl,v = .ref e∧XC X.K C tl∧H1 e=some (.ext (wb C e dd)) ∧
 ∀ pins s,Inv X pins σ H1 s→Inv X pins σ (del H1 e) s→Flt s.heap e C dd none .none→X.xe (.ref e) s
theorem DI {e:Expr} {pos:Pos} {te:TE} (hc:X.calm=true) (he:PE X e te):PS X (.Raise (some e) none pos) (L6 X te):=by
 intro pins s σ H D I h
 rw [arm_exec_Raise]
 refine wpAny_bind (wpAny_standAt ?_)
 unfold raiseStmt
 refine wpAny_bind (wpAny_bind (bX (he pins s σ H _ I h) fun v s1 ⟨x,H1,I1,r,e,C,dd,tl,ex,xc,eh,q⟩=>?_))
 subst ex
 obtain rfl:v=Value.ref e:=r
 have hh:=I1.ok.hd hc
 obtain ⟨nm,q',N,bs,sn,sub,ab,col,IU,k0,k1,k2,k3,k5,oK⟩:=xc.obj
 have oC:=I1.lq _ _ oK
 obtain ⟨⟨t,oe⟩,_,_⟩:=I1.bC e _ eh
 have hE:X.xe (.ref e) s1:=q pins s1 I1 (I1.un (t':=s1.toks) (L3 eh) (Ha I1.bC eh)) (Hb ⟨t,oe⟩)
 have Yu:(Value.ref C :: (tl.map Value.ref ++ E4)).contains (.type "BaseException")=true:=by simp
 obtain ⟨hp,g,dr,tk,os⟩:=s1
 repeat (first | with_reducible refine wpAny_loadPart_at oe ?_ | with_reducible refine wpAny_loadPart_at oC ?_ | (with_reducible refine wpAny_isSubtype_exc oC ?_; rw [Yu]) | wp_step)
 exact wpAny_raiseNew_none hh hE
end
end EX
namespace EX
open PySem PySem.Spec PySem.Calls PyProof.Rows L2 VT
abbrev WT:=Addr→Option Int→Prop
def Hc (H:Hp) (dd:Option Addr):Option Int→Prop
 | none=>dd=none
 | some i=>∃ d,dd=some d∧H d=some (.xd [("place",.int i)])
def E5 (K:PySem.W.Frag) (n:Nat) (G:WT→List T→(Rt→Prop)→Prop):Sp:=fun vs H Q E=>∃ W,bW K n (G W) vs H Q E∧∀ C p dd H',aK H H'→Hc H' dd p→W C p→E (.ref C) dd H'
structure Px (X:Cx) (Z:Zc) (W:WT):Prop where
 calm:X.calm=true
 own:PassesOwn (model X.prog X.w) X.A X.env X.xe
 P0:Z.P=[]
 H0:Z.H0=X.H₀
 ex:X.ex=[]
 xe:∀ pins σ H s e C dd T p,Inv X pins σ H s→Flt s.heap e C dd T .none→H e=none→(∀ a,T=some a→H a=none)→X.s₀.heap.get? e=none→(∀ a,T=some a→X.s₀.heap.get? a=none)→aK Z.H0 H→Hc H dd p→W C p→X.xe (.ref e) s
theorem rO {K:PySem.W.Frag} {Z:Zc} {tm:List (T×V)} {O:List (Option Addr)} {ρ:En} {σ:L2.St} {H:Hp} (h:Z.P=[]) (I:ax K Z tm O ρ σ H):aK Z.H0 H:=fun b o e=>I.keep b o e (by rw [h]; simp)
section
variable {X:Cx} {Z:Zc} {W:WT} {C f:Addr} {fd:FuncData} {ps:List Str} {k n:Nat} {x:Str} {g:FA}
def L7 (W:WT) (C:Addr) (g:FA):FS:=fun _ ρ=>g ρ fun ts=>∃ i:Int,ts=[.int i]∧0≤i∧i≤100∧W C (some i)
theorem k6 {a:Expr} {np bg pos:Pos} (hw:Px X Z W) (xp:XP X.prog X.w X.K X.mg X.base x C k) (hr:bp (k+1) X.A) (hg:Gl X x) (ha:VA X Z [a] g) (n6:gg x:=by decide)
  (he:starEach [a] X.env=(false,eval a X.env) :: starEach [] X.env:=by rfl) (fE:(backTo bg (starEach [] X.env)).any (·.1)=false:=by rfl) :
  VS X Z (.Raise (some (.Call (.Name x np) [a] [] bg)) none pos) (L7 W C g):=.mk fun tm=>PS.weak (DI hw.calm (L5 xp hr hg (ha tm) n6 he fE)) fun D σ H ⟨ρ,O,d,I,q,F⟩ =>
 ⟨ρ,O,_,I,q,fun ts ⟨i,Yv,h0,h1,hW⟩ vs H1 s1 a1=>by
   subst Yv
   simp only [aG,At] at a1
   obtain ⟨v,r,rfl,rfl,rfl⟩:=a1
   refine ⟨i,rfl,h0,h1,fun e dx n1 n2 n3=>?_⟩
   obtain ⟨tl,xc⟩:=xp.xc
   have eu:upd (upd H1 e (.ext (wb C e (some dx)))) dx (.xd [("place",.int i)]) e=some (.ext (wb C e (some dx))):=by rw [aE (Ne.symm n3),aT]
   refine ⟨e,C,some dx,tl,rfl,xc,eu,fun pins s J J2 fl=>?_⟩
   have sm:aK Z.H0 H1:=(rO hw.P0 I).trans s1
   have z0:Z.H0 e=none:=sm.free n1
   refine hw.xe pins σ _ s e C (some dx) none (some i) J2 fl pI (fun _ z=>nomatch z) ?_ (fun _ z=>nomatch z) (fun b o z=>?_) ⟨dx,rfl,by rw [hY n3,aT]⟩ hW
   · cases q2:X.s₀.heap.get? e with
     | none=>rfl
     | some o =>
       have:=J.base.free e o q2 (by rw [← hw.H0]; exact z0) (by rw [hw.ex]; simp)
       rw [eu] at this; cases this
   · have z1:=sm b o z
     have b1:b≠e:=fun y=>by rw [y,n1] at z1; cases z1
     have b2:b≠dx:=fun y=>by rw [y,n2] at z1; cases z1
     rw [hY b1,aE b2,aE b1]
     exact z1⟩
theorem Py (hw:Px X Z W):Passes (AE X.prog X.w) X (fun c dd H'=>∃ C p,c = .ref C∧aK Z.H0 H'∧Hc H' dd p∧W C p):=by
 rintro pins σ H s _ s' I ⟨e,C,dd,T,H',rfl,os,bare,un,bC,fl,n1,n2,n3,n4,C',p,eC,sm,pl,hW⟩
 cases eC
 have J:=I.BN os un bC bare fun b z=>nomatch z
 have fr:∀ a,s.heap.get? a=none→X.s₀.heap.get? a=none:=fun a z=>by
  cases q:X.s₀.heap.get? a with
  | none=>rfl
  | some o=>obtain ⟨o',q'⟩:=I.base.there a o q (by rw [hw.ex]; simp); rw [z] at q'; cases q'
 exact hw.xe pins σ H' s' e C dd (some T) p J fl n3 (fun a z=>by cases z; exact n4) (fr e n1) (fun a z=>by cases z; exact fr _ n2) sm pl hW
def L8 (n:Nat) (g:FA) (G:WT→List T→(Rt→Prop)→Prop) (W:WT):FS:=fun d ρ=>g ρ fun ts=>ts.length=n∧∃ W',(∀ C p,W' C p→W C p)∧G W' ts fun r=>r = .vw .bu∧d.nx ρ
theorem vF {e:Expr} {es:List Expr} {G:WT→List T→(Rt→Prop)→Prop} {p pos pos':Pos} (hw:Px X Z W) (F:cN X.prog X.w X.K X.mg X.base (AE X.prog X.w) k f fd ps (E5 X.K n G)) (hr:bp k X.A) (hg:Gl X x) (hm:X.mg x=some (.ref f)) (hk:PySem.W.keepIn X.K (.ref f)=true) (hb:Binds X.K fd ps [])
  (ha:EU X Z (e :: es) g) (n6:gg x:=by decide) (he:starEach (e :: es) X.env=(false,eval e X.env) :: starEach es X.env:=by rfl) (fE:(backTo pos (starEach es X.env)).any (·.1)=false:=by rfl)
  (hs:swapsWith (.Call (.Name x p) (e :: es) [] pos) none pos'.line X.env=pure false:=by rfl) :
  VS X Z (.Expr (.Call (.Name x p) (e :: es) [] pos) pos') (L8 n g G W):=.mk fun tm=>PS.weak (nJ (ku F hr hg hm hk hb .nil (Py hw) (ha tm) n6 he fE) hs) fun D σ H ⟨ρ,O,d,I,q,F⟩ =>
 ⟨ρ,O,_,I,q,fun ts ⟨hn,W',sub,hG⟩ vs H1 s1 a1=>by
   have J:=I.same s1
   have sm:aK Z.H0 H1:=(rO hw.P0 I).trans s1
   have a2:aG X.K H1 [] ts vs:=aG.iff.mpr (Paired.mY a1 fun _ _ z=>z.bare)
   show E5 X.K n G (vs ++ []) H1 _ _
   rw [EL]
   refine ⟨W',⟨ts,[],[],fun _ r=>r = .vw .bu∧d.nx ρ,JB,fun _ z=>absurd z d8,fun _ z=>absurd z d8,dN hn a2,hG,fun us r ⟨hr,hd⟩ v H' fr z=>?_⟩,fun C p dd H' s2 pl w=>⟨C,p,rfl,sm.trans s2,pl,sub C p w⟩⟩
   subst hr
   have s2:aK H1 H':=fun b o e=>fr b o e d8
   exact F.nx O ρ σ H' (J.same s2) hd⟩
end
section
variable {P:Program} {w:World} {K:PySem.W.Frag} {mg:Str→Option Value} {base:Heap}
def AF (P:Program) (w:World) (K:PySem.W.Frag) (mg:Str→Option Value) (base:Heap) (x:Str) (ps:List Str) (k:Nat) (sp:Sp):Prop :=
 ∃ f fd,mg x=some (.ref f)∧PySem.W.keepIn K (.ref f)=true∧Binds K fd ps []∧cN P w K mg base (AE P w) k f fd ps sp
theorem WB:∀ n (as:List Addr) k,pz (List.replicate n false) as k=[]
 | 0,_,_=>rfl
 | n+1,as,k=>WB n as (k+1)
theorem Je:∀ n (ρ:En),lQ (List.replicate n false) ρ=[]
 | 0,_=>rfl
 | n+1,ρ=>Je n ρ.tail
theorem Pz:∀ n (ts:List T),ts.length=n→sA (List.replicate n false) ts=ts.map fun t=>some (t,false)
 | 0,ts,e=>by cases ts <;> simp_all [sA]
 | n+1,[],e=>by simp at e
 | n+1,t :: ts,e=>by rw [Q0,sA,Pz n ts (by simpa using e)]; rfl
theorem WC:∀ {n:Nat} {H:Hp} {A as:List Addr} {ts:List T} {vs:List V},dM K H A (List.replicate n false) as ts vs→as=[]
 | 0,_,_,_,_,_,h=>h.1
 | n+1,_,_,_,_,_,h=>let ⟨_,_,_,_,_,_,_,h⟩:=h; WC (n:=n) h
theorem UB {x qual:Str} {st:Stmt} {f:Addr} {fd:FuncData} {N ps:List Str} {k n:Nat} {G:WT→List T→(Rt→Prop)→Prop} (F:BC K x qual st f fd) (S:aI N ps (aj st)) (hn:n=ps.length)
  (iJ:∀ (bD:Value) (A:Around) (outer:List Env) (s:Shared) (H:Hp) (E:XK) (Ox:List Addr),bp k (A.deeper (envOfC qual (aj st) s.heap.objs.size f bD))→∀ W ts q,G W ts q→Px (dI (AE P w) P w K mg base N qual (aj st) f bD A outer s H E) ⟨H,[],Ox⟩ W →
    ∃ g,lr (dI (AE P w) P w K mg base N qual (aj st) f bD A outer s H E) ⟨H,[],Ox⟩ (cx st) g∧(ts.length=n→g { nx:=fun _=>q (.vw .bu),rt:=fun _ r=>q r } (ts.map (fun t=>some (t,false)) ++ List.replicate (N.length - ts.length) none))) :
  cN P w K mg base (AE P w) (k+1) f fd ps (E5 K n G):=by
 obtain ⟨oc,od,kV,doc,pm,an,bD,ct,yy,rfl,lk,iB⟩:=F.ex
 refine Io lk iB S (fun vs H Q E h=>?_) fun A outer s H vs Q E hr Ip=>?_
 · obtain ⟨W,⟨ts,as,Ox,q,_,_,_,ha,_⟩,_⟩:=h
   rw [(eS ha).2.1,E_,hn]
 · obtain ⟨W,⟨ts,as,Ox,q,nd,nx,ox,ha,hG,kk⟩,hE⟩:=Ip
   have l1:=(eS ha).1
   rw [E_] at l1
   have e0:=WC ha
   subst e0
   have hw:Px (dI (AE P w) P w K mg base N qual (aj st) f bD A outer s H E) ⟨H,[],Ox⟩ W :=
    ⟨rfl,PassesOwn.leaving,rfl,rfl,rfl,fun pins σ H' s' e C dd T p I fl h1 h2 h3 h4 sm pl w=>L4 I fl h1 h2 h3 h4 (hE C p dd H' sm pl w)⟩
   obtain ⟨g,h1,h2⟩:=iJ bD A outer s H E Ox hr W ts (q []) hG hw
   refine ⟨_,h1 [],?_⟩
   have:=oy (X:=dI (AE P w) P w K mg base N qual (aj st) f bD A outer s H E) (N:=N) (g:=g) nd nx ox ha kk (by
    rw [Pz n ts l1]
    simp only [Je]
    exact h2 l1)
   rw [WB] at this
   exact this
end
end EX
namespace E6
open PySem L2 VT Gen wH EX fB
abbrev bU:Stmt:=top 31
abbrev b5:Stmt:=top 33
abbrev cw:Stmt:=top 36
abbrev dW:Stmt:=top 38
def vv (ts:List T) (q:Rt→Prop):Prop:=∃ (rs:List Rw) (i:Nat) (x f:Str) (as:List kj),ts=[.lst (rs.map aH),G5 (aY rs rs.length),.int (i:Int)]∧rs[i]?=some (Rw.call x f as)∧q (.vw (.bl (tI rs i f as)))
def i4 (cB:Addr) (W:WT) (ts:List T) (q:Rt→Prop):Prop:=∃ rs:List Rw,ts=[.lst (rs.map aH)]∧rs.length≤60∧(match brk [] rs 0 with | none=>q (.vw .bu) | some i=>W cB (some (i:Int)))
def kX (cC:Addr) (W:WT) (ts:List T) (q:Rt→Prop):Prop:=∃ rs:List Rw,ts=[.lst (rs.map aH)]∧rs.length≤60∧(match fu rs with | none=>q (.vw .bu) | some i=>W cC (some (i:Int)))
def nS (cB cC:Addr) (W:WT) (ts:List T) (q:Rt→Prop):Prop:=∃ rs:List Rw,ts=[.lst (rs.map aH)]∧rs.length≤60∧(∀ r∈rs,gr (aH r))∧(match brk [] rs 0 with
 | some i=>W cB (some (i:Int))
 | none=>match fu rs with
   | some i=>W cC (some (i:Int))
   | none=>q (.fr (.lst (rs.map aH))))
section
variable {P:Program} {w:World} {K:PySem.W.Frag} {mg:Str→Option Value} {base:Heap} {k7 k8:Addr}
abbrev e_:List Str:=["program","opened","place","row"]
theorem cq:aI e_ ["program"] (aj b5):=L2.gI
theorem iu {f:Addr} {fd:FuncData} (D:Df K mg "check_blocks" b5 ["program"] f fd) (M:Au w K mg) (h_:XP P w K mg base "NoBlock" k7 1) (i5:b8 P w K mg base "may_stand" ["opened","word"] 1 (bW K 2 L0)) (mi:b8 P w K mg base "go_past" ["opened","word"] 1 (qt K [true,false] Uy)):AF P w K mg base "check_blocks" ["program"] 3 (E5 K 1 (i4 k7)):=by
 obtain ⟨vA,tD,i6,i7,i8,i9⟩:=i5
 obtain ⟨Ax,xA,mj,mm,mn,mq⟩:=mi
 refine ⟨f,fd,D.m,D.F.kp,D.b,UB D.F cq rfl fun bD A outer s H E Ox hr W ts q hG hw=>?_⟩
 have nd:=cq.nd
 have np:∀ {i:Nat},aX ⟨H,[],Ox⟩ i:=kG
 refine ⟨_,(ag (fQ (i:=1) nd rfl (Or.inl rfl) (VP.vx (bO ai)) np)
   (ag (dm hw.own rfl (jk (by rfl) M.enumerate (ak 0)) (gO (n:=2) rfl (bt (aQ (i:=2) nd rfl (Or.inl rfl) np) (bt (aQ (i:=3) nd rfl (Or.inl rfl) np) eB)))
     (ag (aS (di (cY (gk i9 (hr.mono (by decide)) (by rfl) i6 i7 i8 (ao (aa 1) (ao (VP.vr (aJ (aa 3) (VP.vr af))) aw)))))
       (ah (k6 hw h_ (hr.mono (by decide)) (by rfl) (ae (ak 2) ai)))
       aA)
     (ah (bf (oB mq (hr.mono (by decide)) (by rfl) mj mm mn (nN 1 (iU (VP.ve (aJ (aa 3) (VP.vr af))) sD)))))))
   (ah (aS (rh (VP.vr (aB ay az (by rfl) M.len gE (ao (aa 1) aw))) (VP.vr af))
     (ah (k6 hw h_ (hr.mono (by decide)) (by rfl) (ae (VP.ve (aB ay az (by rfl) M.len gE (ao (aa 0) aw))) ai)))
     aA)))),fun _=>?_⟩
 obtain ⟨rs,rfl,hn,hq⟩:=hG
 refine ⟨km _,?_⟩
 refine eG (fun i ρ=>∃ b2 b3 st,ρ=[some (.lst (rs.map aH),false),some (.lst (st.map .str),true),b2,b3]∧brk [] rs 0=brk st (rs.drop i) i∧st.length≤i) ⟨_,_,[],rfl,rfl,km _⟩ ?_ ?_
 · rintro i r ρ hr ⟨b2,b3,st,rfl,hs,hl⟩
   have hi:=(fH.mp hr).1
   rw [za hr] at hs
   obtain ⟨l,el⟩:=s_ r
   rw [el]
   refine ⟨rfl,rfl,_,aq (j:=0) rfl,rfl,st,wd r,rfl,?_⟩
   cases hm:cT st (wd r) with
   | false =>
     have e2:brk [] rs 0=some i:=by rw [hs]; show (if cT st (wd r)=true then _ else _)=_; rw [hm]; rfl
     rw [e2] at hq
     exact ⟨rfl,(i:Int),rfl,by omega,by omega,hq⟩
   | true =>
     refine ⟨rfl,_,aq (j:=0) rfl,st,wd r,rfl,by omega,hm,?_⟩
     have hg:=G6 hm
     refine ⟨_,_,ir st (wd r),rfl,?_,by omega⟩
     rw [hs]; show (if cT st (wd r)=true then _ else _)=_; rw [if_pos hm]
 · rintro ρ ⟨b2,b3,st,rfl,hs,hl⟩
   rw [List.drop_length] at hs
   have uf:brk [] rs 0=if st=[] then none else some rs.length:=hs
   rw [uf] at hq
   by_cases he:st=[]
   · rw [if_pos he] at hq
     subst he
     exact hq
   · rw [if_neg he] at hq
     have hp:0 < st.length:=List.length_pos_iff.mpr he
     have Wy:((st.map T.str).length:Int)=(st.length:Int):=by rw [bZ]
     refine zb (c:=decide ((0:Int) < ((st.map T.str).length:Int))) (decide_eq_true (by omega)) ?_
     have Yw:((rs.map aH).length:Int)=(rs.length:Int):=by rw [bZ]
     exact ⟨((rs.map aH).length:Int),rfl,by omega,by omega,by rw [Yw]; exact hq⟩
abbrev ka:List Str:=["program","firsts","place","row","first"]
theorem d0:aI ka ["program","firsts","place"] (aj dW):=L2.gI
theorem mU {f:Addr} {fd:FuncData} (D:Df K mg "may_call" dW ["program","firsts","place"] f fd) (M:Au w K mg):b8 P w K mg base "may_call" ["program","firsts","place"] 1 (bW K 3 vv):=by
 refine D.jo (j5 D.F d0 rfl fun bD A outer s H E Ox hr ts q hG=>?_)
 have nd:=d0.nd
 have hu:=bp.fF hr
 have np:∀ {i:Nat},aX ⟨H,[],Ox⟩ i:=kG
 have v_:=yY hu
 refine ⟨_,(ag (aV (i:=3) nd rfl (Or.inl rfl) (VP.vx (aJ (aa 0) (aa 2))) np)
   (ag (aV (i:=4) nd rfl (Or.inl rfl) (VP.vx (C0 v_ (aa 1) (VP.vr (aJ (aa 3) (VP.vr af))) ⟨rfl,rfl,rfl,rfl⟩)) np)
   (ag (aS (VW.vc (jI (uU (aa 4) (VP.vr jV)) (gL (gj (aa 4) (aa 2)))))
     (ah (aD (VP.vx jH)))
     aA)
   (ah (aD (VP.vx (mG hu (VP.vr (aB ay az (by rfl) M.len gE (ao (VP.vr (aJ (VP.vr (aJ (aa 0) (aa 4))) (VP.vr af))) aw))) (VP.vr (aB ay az (by rfl) M.len gE (ao (VP.vr (aJ (aa 3) (VP.vr af))) aw)))))))))),fun _=>?_⟩
 obtain ⟨rs,i,x,g,as,rfl,hi,hq⟩:=hG
 refine ⟨_,nU hi,_,aq (j:=2) rfl,?_⟩
 have ex:=pA (aY rs rs.length) g
 dsimp only [Rt.t,Aa]
 rw [ex]
 cases ha:mf (aY rs rs.length) g with
 | none=>rw [rL ha] at hq; exact hq
 | some j =>
   obtain ⟨_,ps,hj⟩:=gu rs.length ha
   rw [rM ha hj] at hq
   by_cases FY:j < i
   · rw [if_pos FY] at hq
     exact zb (c:=decide ((j:Int) < (i:Int))) (decide_eq_true (by omega)) hq
   · rw [if_neg FY] at hq
     refine gQ (c:=decide ((j:Int) < (i:Int))) (decide_eq_false (by omega)) ?_
     refine ⟨_,nU hj,_,aq (j:=2) rfl,_,aq (j:=3) rfl,?_⟩
     show q (.vw (.bl (decide (((ps.map T.str).length:Int)=((as.map lu).length:Int)))))
     rw [bZ,bZ]
     have e:decide ((ps.length:Int)=(as.length:Int))=decide (ps.length=as.length):=by rw [Ib]; simp; omega
     rw [e]
     exact hq
abbrev fV:List Str:=["program","firsts","place","row"]
theorem cD:aI fV ["program"] (aj cw):=L2.gI
theorem i_ {f:Addr} {fd:FuncData} (D:Df K mg "check_calls" cw ["program"] f fd) (M:Au w K mg) (jt:XP P w K mg base "NoCall" k8 1) (gY:b8 P w K mg base "first_defs" ["program"] 1 (bW K 1 xx)) (kb:b8 P w K mg base "may_call" ["program","firsts","place"] 1 (bW K 3 vv)):AF P w K mg base "check_calls" ["program"] 3 (E5 K 1 (kX k8)):=by
 obtain ⟨tF,qJ,gZ,g6,g7,g8⟩:=gY
 obtain ⟨xB,vB,kc,kd,ke,kf⟩:=kb
 refine ⟨f,fd,D.m,D.F.kp,D.b,UB D.F cD rfl fun bD A outer s H E Ox hr W ts q hG hw=>?_⟩
 have nd:=cD.nd
 have hu:=bp.fF hr
 have np:∀ {i:Nat},aX ⟨H,[],Ox⟩ i:=kG
 have v_:=yY hu
 refine ⟨_,(ag (aV (i:=1) nd rfl (Or.inl rfl) (VP.vx (aL g8 (hr.mono (by decide)) (by rfl) gZ g6 g7 (ae (ak 0) ai))) np)
   (ah (dm hw.own rfl (jk (by rfl) M.enumerate (ak 0)) (gO (n:=2) rfl (bt (aQ (i:=2) nd rfl (Or.inl rfl) np) (bt (aQ (i:=3) nd rfl (Or.inl rfl) np) eB)))
     (ag (aS (VW.vc (dh (bz hu (VP.vr (aJ (aa 3) (VP.vr af))) (VP.vr au)) (cH (oq hu (VP.vr (CZ v_ (aa 1) (VP.vr (aJ (aa 3) (VP.vr af))))) (aa 2)))))
       (ah (k6 hw jt (hr.mono (by decide)) (by rfl) (ae (ak 2) ai)))
       aA)
     (ah (aS (VW.vc (dh (bz hu (VP.vr (aJ (aa 3) (VP.vr af))) (VP.vr au)) (cH (di (cY (aL kf (hr.mono (by decide)) (by rfl) kc kd ke (ae (ak 0) (ae (ak 1) (ae (ak 2) ai)))))))))
       (ah (k6 hw jt (hr.mono (by decide)) (by rfl) (ae (ak 2) ai)))
       aA)))))),fun _=>?_⟩
 obtain ⟨rs,rfl,hn,hq⟩:=hG
 refine ⟨rfl,rs,rfl,hn,?_⟩
 refine eG (fun i ρ=>∃ b2 b3,ρ=[some (.lst (rs.map aH),false),some (G5 (aY rs rs.length),false),b2,b3]∧∀ j < i,bR rs j=false) ⟨_,_,rfl,fun j hj=>absurd hj (Nat.not_lt_zero _)⟩ ?_ ?_
 · rintro i r ρ hr ⟨b2,b3,rfl,hp⟩
   have hi:=(fH.mp hr).1
   have UC:bR rs i=false→∀ j < i+1,bR rs j=false:=fun h j hj=>by
    rcases Nat.lt_succ_iff_lt_or_eq.mp hj with z | z
    · exact hp j z
    · rw [z]; exact h
   have bad:bR rs i=true→W k8 (some (i:Int)):=fun h=>by
    rw [xC hi hp h] at hq
    exact hq
   cases r with
   | df g ps =>
     refine ⟨rfl,rfl,_,aq (j:=0) rfl,_,aq (j:=1) rfl,?_⟩
     have ex:=pA (aY rs rs.length) g
     obtain ⟨j,ha⟩:=eI hr rs.length hi
     rw [ha] at ex
     refine ⟨_,ex,?_⟩
     have ew:bR rs i = !decide (j=i):=by unfold bR; rw [hr]; dsimp only; rw [ha]; simp
     by_cases E7:j=i
     · refine gQ (c:=!decide ((j:Int)=(i:Int))) (by simp; omega) ⟨_,aq (j:=0) rfl,_,_,rfl,UC (by rw [ew,decide_eq_true E7]; rfl)⟩
     · refine zb (c:=!decide ((j:Int)=(i:Int))) (by simp; omega) ⟨(i:Int),rfl,by omega,by omega,bad (by rw [ew,decide_eq_false E7]; rfl)⟩
   | call x g as =>
     have ew:bR rs i = !tI rs i g as:=by unfold bR; rw [hr]
     refine ⟨rfl,rfl,_,aq (j:=0) rfl,_,aq (j:=0) rfl,rfl,rs,i,x,g,as,rfl,hr,?_⟩
     cases hm:tI rs i g as with
     | true=>exact ⟨_,_,rfl,UC (by rw [ew,hm]; rfl)⟩
     | false=>exact ⟨(i:Int),rfl,by omega,by omega,bad (by rw [ew,hm]; rfl)⟩
   | _=>exact ⟨rfl,rfl,_,aq (j:=0) rfl,_,aq (j:=0) rfl,_,_,rfl,UC (by unfold bR; rw [hr])⟩
 · rintro ρ ⟨b2,b3,rfl,hp⟩
   rw [xD hp] at hq
   exact hq
abbrev dC:List Str:=["rows","program"]
theorem cU:aI dC ["rows"] (aj bU):=L2.gI
theorem jN {f:Addr} {fd:FuncData} (D:Df K mg "program_of" bU ["rows"] f fd) (M:Au w K mg) (g9:b8 P w K mg base "check_rows" ["program"] 6 (bW K 1 xw)) (ff:AF P w K mg base "check_blocks" ["program"] 3 (E5 K 1 (i4 k7))) (fW:AF P w K mg base "check_calls" ["program"] 3 (E5 K 1 (kX k8))):AF P w K mg base "program_of" ["rows"] 7 (E5 K 1 (nS k7 k8)):=by
 obtain ⟨tG,qK,g_,hU,hV,hX⟩:=g9
 obtain ⟨pD,nz,fg,fj,fm,fq⟩:=ff
 obtain ⟨qL,pF,fY,fZ,f_,gb⟩:=fW
 refine ⟨f,fd,D.m,D.F.kp,D.b,UB D.F cU rfl fun bD A outer s H E Ox hr W ts q hG hw=>?_⟩
 have nd:=cU.nd
 have np:∀ {i:Nat},aX ⟨H,[],Ox⟩ i:=kG
 obtain ⟨tM,mM⟩:=M.rK
 have ja:∀ {pos},VP (dI (AE P w) P w K mg base dC "program_of" (aj bU) f bD A outer s H E) ⟨H,[],Ox⟩ (.Name "MOST_ROWS" pos) (fC (.int 60)):=ej (by rfl) mM (v:=.int 60) ⟨_,rfl⟩ fun _ _=>bE
 refine ⟨_,(ag (fQ (i:=1) nd rfl (Or.inl rfl) (VP.vx (eE gJ jZ (by rfl) M.list wQ (ao (aa 0) aw))) np)
   (ag (aS (rh (VP.vr (aB ay az (by rfl) M.len gE (ao (aa 1) aw))) (VP.vr ja))
     (ah j')
     aA)
   (ag (bf (VP.vx (gk hX (hr.mono (by decide)) (by rfl) g_ hU hV (ao (aa 1) aw))))
   (ag (vF hw fq (hr.mono (by decide)) (by rfl) fg fj fm (ao (aa 1) aw))
   (ag (vF hw gb (hr.mono (by decide)) (by rfl) fY fZ f_ (ao (aa 1) aw))
   (ah (aD (jh 1 np)))))))),fun _=>?_⟩
 obtain ⟨rs,rfl,hn,hA,hq⟩:=hG
 have hl:((rs.map aH).length:Int)=(rs.length:Int):=by rw [bZ]
 refine gQ (c:=decide ((60:Int) < ((rs.map aH).length:Int))) (decide_eq_false (by omega)) ?_
 refine ⟨rfl,rs,rfl,hA,rfl,rfl,W,fun _ _ z=>z,rs,rfl,hn,?_⟩
 cases hb:brk [] rs 0 with
 | some i=>rw [hb] at hq; exact hq
 | none =>
   rw [hb] at hq
   refine ⟨rfl,rfl,W,fun _ _ z=>z,rs,rfl,hn,?_⟩
   cases hc:fu rs with
   | some i=>rw [hc] at hq; exact hq
   | none =>
     rw [hc] at hq
     exact ⟨rfl,hq⟩
end
end E6
namespace EX
open PySem PySem.Spec PySem.Calls PyProof.Rows L2
open PySem.W (findIn typeIn Looks InstAt)
def L9 (C e:Addr) (dd:Option Addr):Heap→Prop:=fun h=>∃ oe vs,h.get? e=some oe∧oe.cls = .ref C∧oe.dict=dd∧oe.data = .fields vs
section
variable {X:Cx} {pins:List (Addr×Obj)} {σ:L2.St} {H H1:Hp} {s s1:Shared} {h':Heap} {e:Addr} {T:Option Addr}
theorem xF (I1:Inv X pins σ H1 s1) (I:Inv X pins σ H s) (st:X.stack=X.env :: X.outer∧X.env.frame=some X.env.locals) (k:Kp (kn X.stack) e T s.heap h') (ne:s1.heap.get? e=none) (nT:∀ a,T=some a→s1.heap.get? a=none)
  (he:H e=none) (hT:∀ a,T=some a→H a=none):Inv X pins σ H { s with heap:=h' }:=by
 have Jf:∀ b o,s1.heap.get? b=some o→b≠e∧T≠some b:=fun b o q=>⟨fun z=>by (rw [z,ne] at q; cases q),fun z=>by (rw [nT b z] at q; cases q)⟩
 have RG:∀ b,b∈kn X.stack→b=X.env.locals∨b∈X.fs:=fun b hb=>by
  rw [st.1] at hb
  unfold kn at hb
  rw [nD,st.2] at hb
  exact dD.mp hb
 have UD:∀ b o,X.s₀.heap.get? b=some o→b∉X.ex→(b≠e∧T≠some b)∧b≠X.env.locals:=fun b o q hx=>by
  obtain ⟨o',q'⟩:=I1.base.there b o q hx
  exact ⟨Jf b o' q',gF (nF (dG q) I.ok.above)⟩
 have Yx:∀ b u,H b=some u→b≠e∧T≠some b∧b∉kn X.stack:=fun b u z=>⟨fun y=>by (rw [y,he] at z; cases z),fun y=>by (rw [hT b y] at z; cases z),fun y=>by (rw [I.nG b y] at z; cases z)⟩
 have cellK:∀ x c v,X.env.cells.lookup x=some c→s.heap.IsCell c v→Heap.IsCell h' c v:=fun x c v q ⟨o,ho,hd⟩=>by
  obtain ⟨v1,o1,L_,_⟩:=I1.cell x c q
  obtain ⟨n1,n2⟩:=Jf c o1 L_
  obtain ⟨sl,q2⟩:=k.any ho n1 n2
  exact ⟨_,q2,hd⟩
 refine ⟨I.ok,I.os,I.bare,⟨fun b o q n nf hx=>?_,fun b o q n nf hx=>?_,I.base.free,fun b o q hx=>?_,I.base.iy,I.base.gG,I.base.iA⟩,?_,fun x c q=>?_,I.free,I.d9,fun p hp=>?_,fun b u z=>?_,I.len⟩
 · obtain ⟨⟨n1,n2⟩,n3⟩:=UD b o q hx
   exact k.keep b o (I.base.keep b o q n nf hx) n1 n2 fun z=>(RG b z).elim n3 nf
 · obtain ⟨⟨n1,n2⟩,n3⟩:=UD b o q hx
   obtain ⟨sl,q1⟩:=I.base.slot b o q n nf hx
   obtain ⟨yz,q2⟩:=k.any q1 n1 n2
   exact ⟨yz,q2⟩
 · obtain ⟨⟨n1,n2⟩,n3⟩:=UD b o q hx
   obtain ⟨o1,q1⟩:=I.base.there b o q hx
   obtain ⟨yz,q2⟩:=k.any q1 n1 n2
   exact ⟨_,q2⟩
 · obtain ⟨m,⟨o,es,ep,ho,hd,r⟩,hl⟩:=I.loc
   obtain ⟨m1,⟨o1,_,_,L_,_⟩,_⟩:=I1.loc
   obtain ⟨n1,n2⟩:=Jf _ o1 L_
   obtain ⟨sl,q⟩:=k.any ho n1 n2
   refine ⟨m,⟨_,es,ep,q,hd,r⟩,fun i x v e1 e2 e3=>?_⟩
   obtain ⟨u,rv,l⟩:=hl i x v e1 e2 e3
   refine ⟨u,rv,?_⟩
   rcases l with l | ⟨kk,c,q,z⟩
   · exact .inl l
   · exact .inr ⟨kk,c,q,cellK x c _ q z⟩
 · obtain ⟨v,z⟩:=I.cell x c q
   exact ⟨v,cellK x c v q z⟩
 · obtain ⟨q,n,ne',nf,d⟩:=I.pin p hp
   obtain ⟨q1,_,_,_,_⟩:=I1.pin p hp
   obtain ⟨n1,n2⟩:=Jf _ _ q1
   exact ⟨k.keep p.1 p.2 q n1 n2 fun z=>(RG _ z).elim ne' nf,n,ne',nf,d⟩
 · refine (I.bC b u z).mZ (fun c v hc q=>?_) (fun _ y=>y) fun _ _ y=>y
   have hh:∃ u,H c=some u:=by
    rcases hc with y | y
    · exact ⟨u,by rw [y]; exact z⟩
    · exact ⟨_,y⟩
   obtain ⟨u',y⟩:=hh
   obtain ⟨n1,n2,n3⟩:=Yx c u' y
   exact k.keep c v q n1 n2 n3
theorem He {M:Model} {A:Around} {E:Value→Shared→Prop} {n:Str} {i:Nat} {pos:Pos} {Q:Unit→Shared→Prop} (I:Inv X pins σ H s) (hN:X.N.Nodup) (hi:X.N[i]?=some n) (hl:X.env.scope.names.lookup n=some .local)
  (h:∀ s',Inv X pins (σ.set i none) H s'→Q () s'):wpAny M A (do bindName X.env n .none; unbindBehindTheSuite X.env n pos) Q E s:=by
 obtain ⟨m,hn,Yy⟩:=id I.loc
 have JI:(X.env.scope.kind == .class || (X.env.scope.kind == .module && X.env.locals != X.env.globals))=false:=by rw [I.ok.kind]; rfl
 have Q_:i < σ.length:=by rw [I.len]; exact (fH.mp hi).1
 obtain ⟨oL,_,_,VJ,_⟩:=id hn
 refine wpAny_nameGoes_keeps hl hn JI fun h' v JJ hs=>h _ ⟨I.ok,I.os,I.bare,⟨fun b o q z hb hx=>?_,fun b o q z hb hx=>?_,I.base.free,fun b o q hx=>?_,I.base.iy,I.base.gG,I.base.iA⟩,⟨_,JJ,fun j y v' e1 e2 e3=>?_⟩,fun y c q=>?_,I.free,I.d9,fun p hp=>?_,fun b ob q=>?_,by simpa using I.len⟩
 · exact (hs.2 b (gF (nF (dG q) I.ok.above))).trans (I.base.keep b o q z hb hx)
 · obtain ⟨sl,q1⟩:=I.base.slot b o q z hb hx
   exact ⟨sl,(hs.2 b (gF (nF (dG q) I.ok.above))).trans q1⟩
 · obtain ⟨o',q1⟩:=I.base.there b o q hx
   exact ⟨o',(hs.2 b (gF (nF (dG q) I.ok.above))).trans q1⟩
 · have hj:j≠i:=fun z=>by
    subst z
    rw [yq Q_] at e2
    cases e2
   rw [uk (Ne.symm hj)] at e2
   obtain ⟨u',r',q⟩:=Yy j y v' e1 e2 e3
   refine ⟨u',r',?_⟩
   rcases q with ⟨kk,q⟩ | ⟨kk,c,q,z⟩
   · refine .inl ⟨kk,?_⟩
     have:y≠n:=fun z=>hj (nY hN e1 (z▸hi))
     simp [this,q]
   · exact .inr ⟨kk,c,q,z.sameBut hs (I.BL y c q)⟩
 · obtain ⟨w',z⟩:=I.cell y c q
   exact ⟨w',z.sameBut hs (I.BL y c q)⟩
 · obtain ⟨q,z,ne,nf,d⟩:=I.pin p hp
   exact ⟨(hs.2 p.1 ne).trans q,z,ne,nf,d⟩
 · refine (I.bC b ob q).mZ (fun c w' hc z=>(hs.2 c ?_).trans z) (fun _ z=>z) fun _ _ z=>z
   rintro rfl
   rcases hc with y | y
   · rw [← y,I.free] at q; cases q
   · rw [I.free] at y; cases y
end
section
variable {prog:Program} {w:World} {A:Around} {E:Value→Shared→Prop} {s:Shared} {K:PySem.W.Frag} {C S e:Addr} {tl ts:List Addr} {oe:Obj}
theorem vG {Q:Bool→Shared→Prop} (X:K.In s.heap) (xc:XC K C tl) (xs:XC K S ts) (hS:C=S∨S∈tl) (he:s.heap.get? e=some oe) (hc:oe.cls = .ref C) (h:Q true s):wpAny (model prog w) A (excMatches (.ref e) (.ref S)) Q E s:=by
 obtain ⟨nm,q',N,bs,sn,sub,ab,col,IU,k0,k1,k2,k3,k5,oK⟩:=xc.obj
 obtain ⟨nmS,qS',NS,bsS,snS,Yz,abS,YA,YB,k0S,k1S,k2S,k3S,k5S,YC⟩:=xs.obj
 have oC:=X _ _ oK
 have oS:=X _ _ YC
 have f:=tc_notTuple
 have c1:(Value.ref S :: (ts.map Value.ref ++ E4)).contains (.type "BaseException")=true:=by simp
 have c2:(Value.ref C :: (tl.map Value.ref ++ E4)).contains (.ref S)=true:=by
  rcases hS with z | z
  · subst z; simp
  · simp [z]
 obtain ⟨hp,g,dr,tk,os⟩:=s
 unfold excMatches
 repeat (first | (with_reducible refine wpAny_loadPart_at he ?_; rw [hc]) | with_reducible refine wpAny_loadPart_at oS ?_ | (with_reducible refine wpAny_isSubtype_exc oS ?_; rw [c1]) | (with_reducible refine wpAny_isSubtype_exc oC ?_; rw [c2]) | wp_step)
 exact h
end
abbrev Ng (X:Cx) (e:Addr):Cx:={ X with A:=X.A.mark (some (.ref e)),calm:=false }
theorem PB {X:Cx} (ok:X.Ok) (e:Addr):(Ng X e).Ok :=
 ⟨ok.mod,ok.kind,ok.glob,ok.blt,ok.above,ok.inj,ok.has,ok.M6,(fun z=>by cases z),ok.frames,ok.Nz,ok.Sd,ok.bs,ok.Bv,ok.zF,ok.BK,ok.ko,ok.Ff⟩
section
variable {X:Cx} {pins:List (Addr×Obj)} {σ:L2.St} {H:Hp} {s:Shared}
theorem DJ (I:Inv X pins σ H s) (e:Addr):Inv (Ng X e) pins σ H s:=⟨PB I.ok e,I.os,I.bare,I.base,I.loc,I.cell,I.free,I.d9,I.pin,I.bC,I.len⟩
theorem AG {H1:Hp} {s1:Shared} {e:Addr} {o:HO} (I1:Inv X pins σ H1 s1) (I:Inv X pins σ H s) (ne:s1.heap.get? e=none) (hx:X.ex=[]) (n3:H e=none) (new:bP X.prog X.w (upd H e o) s.heap e o):Inv X pins σ (upd H e o) s:=by
 have Jf:∀ b u,s1.heap.get? b=some u→b≠e:=fun b u q z=>by rw [z,ne] at q; cases q
 have f0:X.s₀.heap.get? e=none:=by
  cases q:X.s₀.heap.get? e with
  | none=>rfl
  | some o=>obtain ⟨o',q'⟩:=I1.base.there e o q (by rw [hx]; simp); rw [ne] at q'; cases q'
 refine ⟨I.ok,I.os,I.bare,pH I.base n3 f0,I.loc,I.cell,?_,fun x c q=>?_,fun p hp=>?_,mw I.bC n3 new,I.len⟩
 · obtain ⟨m1,⟨o1,_,_,L_,_⟩,_⟩:=I1.loc
   rw [aE (Jf _ _ L_)]; exact I.free
 · obtain ⟨v1,o1,L_,_⟩:=I1.cell x c q
   rw [aE (Jf _ _ L_)]; exact I.d9 x c q
 · obtain ⟨q1,_,_,_,_⟩:=I1.pin p hp
   obtain ⟨q,z,r⟩:=I.pin p hp
   exact ⟨q,by rw [aE (Jf _ _ q1)]; exact z,r⟩
theorem DK {e:Addr} (ok:X.Ok) (I:Inv (Ng X e) pins σ H s):Inv X pins σ H s:=⟨ok,I.os,I.bare,I.base,I.loc,I.cell,I.free,I.d9,I.pin,I.bC,I.len⟩
end
section
variable {X:Cx} {S f:Addr} {ts:List Addr} {fd:FuncData} {ps:List Str} {k ix iz jn:Nat} {x z n cl fx:Str} {sp:Sp} {a:Expr} {p0 p1 p2 p3 p4 p5 p6 p7 p8 pos:Pos} {ta:TA}
def UE (K:PySem.W.Frag) (S:Addr) (ix iz jn:Nat) (sp:Sp) (ta:TA):TS:=fun D σ H=>ta σ H fun vs H1=>sp vs H1 (fun v H2=>D.nx (σ.set ix (some v)) H2) fun c dd H2=>∃ C tl,c = .ref C∧XC K C tl∧(C=S∨S∈tl) ∧
 ∀ e,H1 e=none→H2 e=none→D.nx (((σ.set jn (some (.ref e))).set iz (some (.ref e))).set jn none) (upd H2 e (.ext (L9 C e dd)))
theorem Hf (st:X.stack=X.env :: X.outer∧X.env.frame=some X.env.locals) (F:cN X.prog X.w X.K X.mg X.base (AE X.prog X.w) k f fd ps sp) (hr:bp k X.A) (hg:Gl X fx) (hm:X.mg fx=some (.ref f)) (hk:PySem.W.keepIn X.K (.ref f)=true) (hb:Binds X.K fd ps [])
  (ha:∀ E1,PA (X.iH E1) [a] ta) (hN:X.N.Nodup) (UG:X.N[ix]?=some x) (UH:X.N[iz]?=some z) (L':X.N[jn]?=some n) (lx:Loc X.env.scope x) (lz:Loc X.env.scope z) (ln:X.env.scope.names.lookup n=some .local)
  (UI:Gl X cl) (UJ:X.mg cl=some (.ref S)) (xs:XC X.K S ts) (lJ:∀ y,X.fn y=true) (hex:X.ex=[]) (d1:gg fx:=by decide) (d2:gg cl:=by decide) (d3:gg n:=by decide) (d4:ug n:=by decide)
  (he:starEach [a] X.env=(false,eval a X.env) :: starEach [] X.env:=by rfl) (fE:(backTo p2 (starEach [] X.env)).any (·.1)=false:=by rfl)
  (Ma:swapsWith (.Call (.Name fx p1) [a] [] p2) (some (.Name x p0)) p3.line X.env=pure false:=by rfl) (uf:swapsWith (.Name n p5) (some (.Name z p6)) p7.line X.env=pure false:=by rfl) :
  PS X (.Try [.Assign [.Name x p0] (.Call (.Name fx p1) [a] [] p2) p3] [.ExceptHandler (some (.Name cl p4)) (some n) [.Assign [.Name z p6] (.Name n p5) p7] p8] [] [] pos) (UE X.K S ix iz jn sp ta):=by
 intro pins s σ H D I h
 refine wpAny_Try_except ?_
 generalize YD:(fun (e:Value) (s₁:Shared)=>wpAny (model X.prog X.w) X.A (noteFrame e X.env) (fun _ s₂=>wpAny (model X.prog X.w) X.A (setFlight e none) (fun _ s₃=>wpAny (model X.prog X.w) X.A (handleBy e X.env [.ExceptHandler (some (.Name cl p4)) (some n) [.Assign [.Name z p6] (.Name n p5) p7] p8]) (SP X pins D) X.xe s₃) X.xe s₂) X.xe s₁)=E1
 refine wpAny_execs_cons ?_
 refine wpAny_Assign_Name ?_ Ma
 refine wpAny_Call_Name_kw (jf I hg hm ?_ d1)
 refine Q2 (h₀:=X.base) I.ok.mod.M5 hk (wpAny_mono (ha E1 p2 pins s σ H _ (I.iH E1) h) (fun us s1 ⟨vs,H1,J1,r,q⟩=>⟨J1.lq,?_⟩) fun _ _ y=>y) he fE
 have I1:Inv X pins σ H1 s1:=J1.fN
 have hl:us.length=ps.length:=by rw [← r.length]; exact F.len _ _ _ _ q
 have Lo:BindsTo s1 fd ⟨us,[]⟩ (ps.zip us):=by have:=hb s1 us I1.lq (by rw [EL]; exact hl); rw [EL] at this; exact this
 refine wpAny_call (codeAny_mono (F.run X.A X.stack s1 H1 ⟨us,[]⟩ us vs _ _ hr I1.Kn Lo r q) fun rr s' hq=>?_)
 cases rr with
 | ok fl =>
   cases fl with
   | ret u =>
     obtain ⟨v,H2,I2,rv,q2⟩:=I1.after hq
     exact iG I2 hN UG lx rv (fun s3 I3=>wpAny_execs_nil (wpAny_execs_nil ⟨_,H2,I3,q2⟩)) (.inl (lJ _))
   | _=>exact False.elim hq
 | error ev =>
   obtain ⟨e,C,dd,T,H2,rfl,os,bare,un,bC,fl,n1,n2,n3,n4,C',tl,eC,xc,hS,q3⟩:=hq
   cases eC
   have I2:Inv X pins σ H2 s':=I1.BN os un bC bare fun b y=>nomatch y
   have n0:H1 e=none:=by
    cases y:H1 e with
    | none=>rfl
    | some o=>obtain ⟨u,y2⟩:=kZ (I1.bC e o y); rw [n1] at y2; cases y2
   have E3:X.A.frames=some (X.env :: X.outer):=by rw [← st.1]; exact I.ok.frames
   have sf:s'.heap.FunFrames X.base (X.env :: X.outer):=by have:=I2.stack; rw [st.1] at this; exact this
   show E1 (.ref e) s'
   rw [← YD]
   refine zc E3 sf st.2 fl fun h2 T2 f2 t2 k2=>?_
   have I3:Inv X pins σ H2 { s' with heap:=h2 }:=xF I1 I2 st (by rw [st.1]; exact k2) n1 (fun a y=>by cases y; exact n2) n3 (fun a y=>by cases y; exact n4)
   have t3:s1.heap.get? T2=none:=by
    cases y:s1.heap.get? T2 with
    | none=>rfl
    | some o =>
      by_cases y3:∃ u,H1 T2=some u
      · obtain ⟨o',y4⟩:=un.there T2 o y (by simp)
        rw [t2] at y4; cases y4
      · obtain ⟨o',y4⟩:=un.there T2 o y (by simp)
        rw [t2] at y4; cases y4
   have t4:H2 T2=none:=by
    cases y:H2 T2 with
    | none=>rfl
    | some o=>obtain ⟨u,y2⟩:=kZ (bC T2 o y); rw [t2] at y2; cases y2
   refine tJ (s:={ s' with heap:=h2 }) f2 fun h3 f3 k3=>?_
   have up:∀ {a b:Heap} {T:Addr},Kp [] e (some T) a b→Kp (kn X.stack) e (some T) a b:=fun {a b T} kk=>⟨fun b o q n1 n2 _=>kk.keep b o q n1 n2 (by simp),fun b o q _ n2 n3=>⟨o.slots,kk.keep b o q n2 n3 (by simp)⟩⟩
   have I4:Inv X pins σ H2 { s' with heap:=h3 }:=xF (s:={ s' with heap:=h2 }) I1 I3 st (up k3) n1 (fun a y=>by cases y; exact t3) n3 (fun a y=>by cases y; exact t4)
   obtain ⟨oe,vs3,RF,YE,oe3,oe4,_⟩:=id f3
   refine wpAny_handleBy_cons (codeAny_handlers_test ?_) (by intro y; cases y)
   refine jf (X:=Ng X e) (s:={ s' with heap:=h3 }) (DJ I4 e) UI UJ ?_ d2
   refine vG (s:={ s' with heap:=h3 }) I4.lq xc xs hS RF YE ?_
   refine codeAny_handlers_suite_as ?_
   refine tJ (s:={ s' with heap:=h3 }) f3 fun h4 f4 k4=>?_
   have I5:Inv X pins σ H2 { s' with heap:=h4 }:=xF (s:={ s' with heap:=h3 }) I1 I4 st (up k4) n1 (fun a y=>by cases y; exact t3) n3 (fun a y=>by cases y; exact t4)
   obtain ⟨of,YF,WD,of2,YG,YH,_⟩:=id f4
   have I6:Inv X pins σ (upd H2 e (.ext (L9 C e dd))) { s' with heap:=h4 }:=AG (s:={ s' with heap:=h4 }) I1 I5 n1 hex n3 ⟨⟨of,YF,WD,of2,YG,YH⟩,⟨_,WD⟩,fun g1 g2 ⟨o,v,y1,y2⟩ kk=>⟨o,v,kk _ y1,y2⟩⟩
   refine iG I6 hN L' (.inl ln) (v:=.ref e) rfl (fun s5 I7=>?_) (.inl (lJ _))
   have jl:jn < (σ.set jn (some (V.ref e))).length:=by rw [JA,I.len]; exact (fH.mp L').1
   have ev:(σ.set jn (some (V.ref e)))[jn]?=some (some (.ref e)):=by rw [yq (by rw [JA] at jl; exact jl)]
   have pw:=wj (X:=(Ng X e).nI) (pos:=p7) (pos':=p6) (e:=.Name n p5) hN UH lz (cW (X:=(Ng X e).nI) (i:=jn) L' (.inl ln) d3 d4) uf (.inl (lJ _))
   refine wpAny_execs_cons (wpAny_mono (pw pins s5 _ _ { nx:=fun σ' H'=>σ'=(σ.set jn (some (.ref e))).set iz (some (.ref e))∧H'=upd H2 e (.ext (L9 C e dd)),rt:=fun _ _=>False } ((DJ I7 e).iH _) ⟨_,ev,rfl,rfl⟩) (fun fl s6 y=>?_) fun ev s6 y=>?_)
   · cases fl with
     | next =>
       obtain ⟨σ7,H7,I8,rfl,rfl⟩:=y
       refine wpAny_execs_nil ?_
       show wpAny _ _ _ _ _ _
       refine He (DK I.ok I8.fN) hN L' ln fun s8 I9=>⟨_,_,I9,q3 e n0 n3⟩
     | ret u=>obtain ⟨_,_,_,_,_,y⟩:=y; exact y.elim
     | _=>obtain ⟨_,_,_,y⟩:=y; exact y.elim
   · exact False.elim y
end
end EX
namespace VT
open PySem PySem.Spec PyProof.Rows L2
def PC (f:Str):List Str→List Str
 | []=>[f]
 | n :: ns=>if n=f then n :: ns else n :: PC f ns
def PD {α:Type} (f:Str) (u:α):List Str→List α→List α
 | n :: ns,t :: ts=>if n=f then u :: ts else t :: PD f u ns ts
 | _,_=>[u]
section
variable {K:PySem.W.Frag} {H:Hp} {A:List Addr} {f:Str}
end
section
variable {X:Cx} {Z:Zc} {e:Expr} {es:List Expr} {C:Addr} {f:Str} {pos:Pos}
def LR (n:Nat) (C:Addr) (f:Str) (fe:FE):FS:=fun d ρ=>match ρ[n]? with
 | some (some (.ins C' ns ts,true))=>C'=C∧fe ρ fun v=>ts.length < 1000∧d.nx (ρ.set n (some (.ins C' (PC f ns) (PD f v ns ts),true)))
 | _=>False
def RI (K:PySem.W.Frag) (C:Addr) (n:Nat) (G:List T→(T→Prop)→Prop):Sp:=qt K (true :: List.replicate n false) fun ts q=>match ts with
 | .ins C' [] [] :: us=>C'=C∧G us fun u=>q [u] (.vw .bu)
 | _=>False
end
structure Dc (K:PySem.W.Frag) (mg:Str→Option Value) (cls qual:Str) (st:Stmt) (ps:List Str) (C f:Addr) (fd:FuncData):Prop where
 F:BC K "__init__" qual st f fd
 m:mg cls=some (.ref C)
 b:Binds K fd ps []
 M:Mk K C f
def UK (P:Program) (w:World) (K:PySem.W.Frag) (mg:Str→Option Value) (base:Heap) (cls:Str) (C:Addr) (ps:List Str) (k n:Nat) (G:List T→(T→Prop)→Prop):Prop :=
 ∃ f fd,Mk K C f∧mg cls=some (.ref C)∧Binds K fd ps []∧cN P w K mg base iN k f fd ps (RI K C n G)
section
variable {P:Program} {w:World} {K:PySem.W.Frag} {mg:Str→Option Value} {base:Heap}
theorem Dc.jo {cls qual:Str} {st:Stmt} {ps:List Str} {C f:Addr} {fd:FuncData} {k n:Nat} {G:List T→(T→Prop)→Prop} (D:Dc K mg cls qual st ps C f fd) (F:cN P w K mg base iN k f fd ps (RI K C n G)):UK P w K mg base cls C ps k n G :=
 ⟨f,fd,D.M,D.m,D.b,F⟩
end
section
variable {X:Cx}
end
section
variable {X:Cx} {Z:Zc} {a:Expr} {fa:FE} {p1 apos GA z7:Pos}
end
structure Hg (K:PySem.W.Frag) (H H':Hp) (Ox:List Addr) (us:List T) (p:Addr) (ls:List Addr):Prop where
 same:aK H H'
 tup:H' p=some (.tup (ls.map V.ref))
 nd:ls.Nodup
 new:∀ a∈ls,H a=none
 YI:Paired (fun a t=>cz K H' (ls ++ Ox) a t) ls us
structure UL (K:PySem.W.Frag) (Z:Zc) (tm:List (T×V)) (d:ID) (dp:List T→Prop) (D:Ends):Prop where
 fin:Fin K Z tm d D
 dp:∀ us,dp us→∀ p ls H',Hg K Z.H0 H' Z.Ox us p ls→D.rt (.ref p) H'
abbrev PF:=ID→(List T→Prop)→En→Prop
def WE (X:Cx) (Z:Zc) (tm:List (T×V)) (g:PF):TS:=fun D σ H=>∃ ρ O d dp,ax X.K Z tm O ρ σ H∧g d dp ρ∧UL X.K Z tm d dp D
def Hh (X:Cx) (Z:Zc) (st:List Stmt) (g:PF):Prop:=Bx fun tm=>nH X st (WE X Z tm g)
instance {X:Cx} {Z:Zc} {st:List Stmt} {g:PF}:CoeFun (Hh X Z st g) fun _=>∀ tm,nH X st (WE X Z tm g):=⟨fun h=>Bx.h h⟩
section
variable {X:Cx} {Z:Zc} {st:Stmt} {rest:List Stmt} {g:FS} {u:PF} {pos:Pos}
theorem Hh.weak {u':PF} (h:Hh X Z rest u) (hw:∀ d dp ρ,u' d dp ρ→u d dp ρ):Hh X Z rest u':=.mk fun tm=>nH.uI (h tm) fun D σ H ⟨ρ,O,d,dp,I,q,F⟩=>⟨ρ,O,d,dp,I,hw d dp ρ q,F⟩
end
section
variable {P:Program} {w:World} {K:PySem.W.Frag} {mg:Str→Option Value} {base:Heap}
end
section
variable {X:Cx} {Z:Zc} {k n:Nat} {f:Addr} {fd:FuncData} {ps:List Str} {G:List T→(List T→Prop)→Prop} {x:Str} {p pos:Pos} {e:Expr} {es:List Expr} {g:FA}
def lD (X:Cx) (Z:Zc) (tm:List (T×V)) (f:En→(List T→Prop)→Prop):TE:=fun σ H Q=>∃ ρ O q,ax X.K Z tm O ρ σ H∧f ρ q∧∀ us,q us→∀ p ls H',Hg X.K H H' (av Z O) us p ls→Q (.ref p) H'
def VD (X:Cx) (Z:Zc) (e:Expr) (f:En→(List T→Prop)→Prop):Prop:=Bx fun tm=>PE X e (lD X Z tm f)
instance {X:Cx} {Z:Zc} {e:Expr} {f:En→(List T→Prop)→Prop}:CoeFun (VD X Z e f) fun _=>∀ tm,PE X e (lD X Z tm f):=⟨fun h=>Bx.h h⟩
theorem Hg.at {K:PySem.W.Frag} {tm:List (T×V)} {O:List (Option Addr)} {ρ:En} {σ:St} {H H':Hp} {us:List T} {p:Addr} {ls:List Addr} (I:ax K Z tm O ρ σ H) (D:Hg K H H' (av Z O) us p ls):At K H' (av Z O) (.tup us) (.ref p):=by
 refine br (dF.of D.tup) (aG.iff.mpr ?_)
 have key:∀ {RJ:List Addr} {RC:List T},(∀ a∈RJ,a∈ls)→Paired (fun a t=>cz K H' (ls ++ av Z O) a t) RJ RC→Paired (fun v t=>At K H' (av Z O) t v) (RJ.map V.ref) RC:=by
  intro RJ RC sub h
  induction h with
  | nil=>exact .nil
  | cons r t ih =>
    refine .cons ((r.bq fun b hb=>lj _ hb).at fun z=>?_) (ih fun a ha=>sub a (jC _ ha))
    exact I.KJ _ z (D.new _ (sub _ ij))
 exact key (fun _ h=>h) D.YI
end
section
variable {X:Cx} {Z:Zc}
end
section
variable {X:Cx} {Z:Zc}
end
section
variable {X:Cx} {Z:Zc} {st:Stmt} {bG:List Stmt} {g:FS}
end
section
variable {X:Cx} {Z:Zc} {o e:Expr} {fo fe:FE} {apos bg:Pos}
end
theorem c9 {α:Type} {f u:α→T} {p:α→Bool} {h:FG} {fc:FB} {fe:FE} {ρ:En}:∀ {xs:List α} {Q:List T→Prop},(∀ x∈xs,∀ r s:Prop,(if p x=true then ∀ k:T→Prop,(k (u x)→r)→r else s)→True)→(∀ x∈xs,∀ (k:T→Prop) (s:Prop),(if p x=true then k (u x) else s)→h (f x) ρ fun ρ2=>fc ρ2 fun b=>if b=true then fe ρ2 k else s)→Q ((xs.filter p).map u)→cQ h fc fe ρ (xs.map f) Q
 | [],Q,_,_,hq=>hq
 | x :: xs,Q,t0,step,hq=>by
   simp only [iF,cQ]
   refine step x ij _ _ ?_
   by_cases hp:p x=true
   · rw [if_pos hp]
     rw [List.filter_cons_of_pos hp] at hq
     exact c9 (Q:=fun us=>Q (u x :: us)) (fun _ _ _ _ _=>trivial) (fun y hy=>step y (jC _ hy)) hq
   · rw [if_neg hp]
     rw [List.filter_cons_of_neg hp] at hq
     exact c9 (fun _ _ _ _ _=>trivial) (fun y hy=>step y (jC _ hy)) hq
end VT
namespace VT
open PySem PySem.Spec PyProof.Rows L2 PySem.MeetsSeq PySem.SeqAt
section
variable {X:Cx}
end
section
variable {X:Cx} {Z:Zc} {o e:Expr} {fo:FE} {apos bg:Pos}
end
def zd (z:Bool):Value→Bool
 | .bool y=>y == z
 | _=>false
theorem pJ:∀ {bs:List Bool} {us:List Value},Vals (bs.map V.bl) us→us=bs.map Value.bool
 | [],_,h=>by cases h; rfl
 | b :: bs,_,h=>by
   cases h with
   | cons r t=>rw [iF,← pJ t]; cases r; rfl
theorem tK {K:PySem.W.Frag} {H:Hp} {A:List Addr}:∀ {bs:List Bool} {vs:List V},aG K H A (bs.map .bl) vs→vs=bs.map V.bl
 | [],vs,h=>by simpa only [JC,aG] using h
 | y :: ys,vs,h=>by
   simp only [iF,aG,At] at h
   obtain ⟨v,r,rfl,rfl,h⟩:=h
   rw [tK h]; rfl
section
variable {X:Cx}
theorem AH:BB X "list.count" (fun x xs H Q=>∃ (p:Addr) (ys:List Bool) (z:Bool),x = .ref p∧xs=[.bl z]∧eJ X.K H p (ys.map V.bl)∧Q (.int ((ys.countP (· == z):Nat):Int)) H):=by
 intro pins s σ H x xs v us Q I rx rs h
 obtain ⟨p,ys,z,rfl,rfl,hq,q⟩:=h
 cases rx
 obtain ⟨u,rfl,ru⟩:=vals1 rs
 obtain rfl:u=Value.bool z:=ru
 obtain ⟨aP,rv,pl,_⟩:=I.list hq
 obtain ⟨⟨cls,dd,data,sl⟩,ho,hc,n,hd⟩:=pl.isList
 simp only at hc hd
 subst hc hd
 have e:=pJ rv
 subst e
 refine call_meets PySem.F.slot_list_count ⟨_,ho,rfl⟩ PySem.F.entry_list_count (PySem.F.args_list_count_2 _ _) (list_countAt p (ys.map Value.bool).toArray n dd sl (.bool z) (zd z)) ⟨ho,fun y hy=>?_,?_⟩
 · have Oc:y∈ys.map Value.bool:=by simpa using hy
   obtain ⟨b,_,rfl⟩:=yr.mp Oc
   exact EqAt.bool_bool b z
 · have e:((ys.map Value.bool).toArray.toList.countP (zd z))=ys.countP (· == z):=by rw [show (ys.map Value.bool).toArray.toList=ys.map Value.bool from rfl,List.countP_map]; rfl
   rw [e]
   exact ⟨.int ((ys.countP (· == z):Nat):Int),H,I.tok _,⟨_,rfl⟩,q⟩
theorem AI:BB X "list.index" (fun x xs H Q=>∃ (p:Addr) (ys:List Bool) (z:Bool) (j:Nat),x = .ref p∧xs=[.bl z]∧eJ X.K H p (ys.map V.bl)∧ys[j]?=some z∧(∀ i,i < j→ys[i]?≠some z)∧ys.length≤1000∧Q (.int (j:Int)) H):=by
 intro pins s σ H x xs v us Q I rx rs h
 obtain ⟨p,ys,z,j,rfl,rfl,hq,hj,Fx,hl,q⟩:=h
 cases rx
 obtain ⟨u,rfl,ru⟩:=vals1 rs
 obtain rfl:u=Value.bool z:=ru
 obtain ⟨aP,rv,pl,_⟩:=I.list hq
 obtain ⟨⟨cls,dd,data,sl⟩,ho,hc,n,hd⟩:=pl.isList
 simp only at hc hd
 subst hc hd
 have e:=pJ rv
 subst e
 have RK:j < ys.length:=(fH.mp hj).1
 have key:∀ (i:Nat) (hi:i < (ys.map Value.bool).toArray.size),zd z (ys.map Value.bool).toArray[i]=decide (ys[i]?=some z):=by
  intro i hi
  have BD:i < ys.length:=by simpa using hi
  have e3:(ys.map Value.bool).toArray[i]=Value.bool ys[i]:=by simp
  rw [e3,kg BD]
  show (ys[i] == z)=_
  rw [Ib]
  simp
 refine call_meets PySem.F.slot_list_index ⟨_,ho,rfl⟩ PySem.F.entry_list_index (PySem.F.args_list_index_2 _ _)
  (list_indexAt p (ys.map Value.bool).toArray n dd sl (.bool z) (zd z) j (by simpa using RK) (by omega) ?_ ?_) ⟨ho,fun y hy=>?_,⟨.int (j:Int),H,I.tok _,⟨_,rfl⟩,q⟩⟩
 · rw [key]; exact decide_eq_true hj
 · intro m hm fz
   rw [key]; exact decide_eq_false (Fx m fz)
 · have Oc:y∈ys.map Value.bool:=by simpa using hy
   obtain ⟨b,_,rfl⟩:=yr.mp Oc
   exact EqAt.bool_bool b z
end
section
variable {X:Cx} {Z:Zc} {o e:Expr} {fo:FE} {apos bg:Pos}
def Hi (fo:FE) (g:FA):FP:=fun ρ Q=>fo ρ fun x=>match x with
 | .lst ts=>g ρ fun y=>∃ (ys:List Bool) (z:Bool),ts=ys.map .bl∧y=[.bl z]∧Q (.vw (.int ((ys.countP (· == z):Nat):Int)))
 | _=>False
theorem vH {g:FA} (ho:VR X Z o fo) (he:EU X Z [e] g) (eM:attributeBase o "count" X.env (eval o X.env)=eval o X.env:=by rfl)
  (n9:((backTo bg (starEach [e] X.env)).all (fun x=>!x.1) && (backToKw bg (keywordEach [] X.env)).all (fun x=>x.1.isSome)
    && decide (([e]:List Expr).length+([]:List Keyword).length+(if ([]:List Keyword).isEmpty then 0 else 1) < 30))=true:=by rfl)
  (eO:(apos.endLine == bg.line)=true:=by rfl) (hs:starEach [e] X.env=(false,eval e X.env) :: starEach [] X.env:=by rfl) (eQ:(backTo bg (starEach [] X.env)).any (·.1)=false:=by rfl) :
  VP X Z (.Call (.Attribute o "count" apos) [e] [] bg) (Hi fo g):=.mk fun tm =>
 PE.weak (uy QS PySem.F.slot_list_count PySem.F.type_list_count AH (ho tm) (he tm) eM n9 eO hs eQ) fun σ H Q ⟨ρ,O,q,I,hf,k⟩ =>
  ⟨ρ,O,_,I,hf,fun x hx v H1 s1 a1=>by
    split at hx
    · rename_i ts
      obtain ⟨p,vs,rfl,h1,h2⟩:=a1.lst
      refine ⟨.inl ⟨rfl,vs,h1⟩,ρ,O,_,I.same s1,hx,fun y hy w H2 s2 a2=>?_⟩
      obtain ⟨ys,z,rfl,rfl,hq⟩:=hy
      obtain ⟨u,rfl,a3⟩:=cK a2
      have ev:=tK h2
      subst ev
      have eu:=a3.bl
      subst eu
      exact ⟨p,ys,z,rfl,rfl,h1.imp (fun z=>Rd.same s2 z) id,k _ hq _ H2 (s1.trans s2) ⟨(I.same s1).same s2,bE⟩⟩
    · exact hx.elim⟩
def Hj (fo:FE) (g:FA):FP:=fun ρ Q=>fo ρ fun x=>match x with
 | .lst ts=>g ρ fun y=>∃ (ys:List Bool) (z:Bool) (j:Nat),ts=ys.map .bl∧y=[.bl z]∧ys[j]?=some z∧(∀ i,i < j→ys[i]?≠some z)∧ys.length≤1000∧Q (.vw (.int (j:Int)))
 | _=>False
theorem vI {g:FA} (ho:VR X Z o fo) (he:EU X Z [e] g) (eM:attributeBase o "index" X.env (eval o X.env)=eval o X.env:=by rfl)
  (n9:((backTo bg (starEach [e] X.env)).all (fun x=>!x.1) && (backToKw bg (keywordEach [] X.env)).all (fun x=>x.1.isSome)
    && decide (([e]:List Expr).length+([]:List Keyword).length+(if ([]:List Keyword).isEmpty then 0 else 1) < 30))=true:=by rfl)
  (eO:(apos.endLine == bg.line)=true:=by rfl) (hs:starEach [e] X.env=(false,eval e X.env) :: starEach [] X.env:=by rfl) (eQ:(backTo bg (starEach [] X.env)).any (·.1)=false:=by rfl) :
  VP X Z (.Call (.Attribute o "index" apos) [e] [] bg) (Hj fo g):=.mk fun tm =>
 PE.weak (uy QS PySem.F.slot_list_index PySem.F.type_list_index AI (ho tm) (he tm) eM n9 eO hs eQ) fun σ H Q ⟨ρ,O,q,I,hf,k⟩ =>
  ⟨ρ,O,_,I,hf,fun x hx v H1 s1 a1=>by
    split at hx
    · rename_i ts
      obtain ⟨p,vs,rfl,h1,h2⟩:=a1.lst
      refine ⟨.inl ⟨rfl,vs,h1⟩,ρ,O,_,I.same s1,hx,fun y hy w H2 s2 a2=>?_⟩
      obtain ⟨ys,z,j,rfl,rfl,hj,Fx,hl,hq⟩:=hy
      obtain ⟨u,rfl,a3⟩:=cK a2
      have ev:=tK h2
      subst ev
      have eu:=a3.bl
      subst eu
      exact ⟨p,ys,z,j,rfl,rfl,h1.imp (fun z=>Rd.same s2 z) id,hj,Fx,hl,k _ hq _ H2 (s1.trans s2) ⟨(I.same s1).same s2,bE⟩⟩
    · exact hx.elim⟩
end
end VT
namespace EX
open PySem PySem.Spec PySem.Calls PyProof.Rows L2 VT
open PySem.W (kitOne InstAt)
structure YJ (K:PySem.W.Frag) (C:Addr):Prop where
 xc:∃ tl,XC K C tl
 xf:XF K C
structure Ex (K:PySem.W.Frag) (H:Hp) (e C:Addr) (dd:Option Addr) (p:Option Int):Prop where
 ex:H e=some (.ext (L9 C e dd))
 pl:Hc H dd p
 kl:YJ K C
theorem Ex.same {K:PySem.W.Frag} {H H':Hp} {e C:Addr} {dd:Option Addr} {p:Option Int} (x:Ex K H e C dd p) (s:aK H H'):Ex K H' e C dd p :=
 ⟨s _ _ x.ex,by cases p with | none=>exact x.pl | some i=>obtain ⟨d,h1,h2⟩:=x.pl; exact ⟨d,h1,s _ _ h2⟩,x.kl⟩
section
variable {X:Cx} {Z:Zc} {e C:Addr} {dd:Option Addr} {pp:Option Int}
theorem Hk {pins:List (Addr×Obj)} {σ:L2.St} {H:Hp} {s:Shared} (I:Inv X pins σ H s) (x:Ex X.K H e C dd pp):∃ oe od,InstAt s.heap e oe C od:=by
 obtain ⟨⟨oe,vs,h1,h2,h3,h4⟩,_,_⟩:=I.bC e _ x.ex
 have nc:PySem.W.notCls oe=true:=by unfold PySem.W.notCls; rw [h4]
 cases pp with
 | none =>
   have pl:dd=none:=x.pl
   exact ⟨oe,none,h1,h2,nc,by rw [h3,pl]; trivial⟩
 | some i =>
   obtain ⟨d,rfl,hd⟩:=x.pl
   obtain ⟨mA,⟨o,_,_,ho,_⟩,_⟩:=I.bC d _ hd
   exact ⟨oe,some o,h1,h2,nc,by rw [h3]; exact ho⟩
def UM (K:PySem.W.Frag) (cv:V) (c:Value) (e C:Addr) (dd:Option Addr) (pp:Option Int) (b:Bool):List V→Hp→VK→Prop:=fun xs H Q=>xs=[.ref e,cv]∧Ex K H e C dd pp∧kitOne K (.ref C) c=some b∧Q (.bl b) H
theorem DM {cv:V} {c:Value} {b:Bool} (rc:∀ u,RelV cv u→u=c):c_ X (.builtin "isinstance") (UM X.K cv c e C dd pp b):=by
 rintro pins s σ H xs us Q I r ⟨rfl,x,hk,q⟩
 obtain ⟨u,w',rfl,rx,ry⟩:=vals2 r
 obtain rfl:u=Value.ref e:=rx
 obtain rfl:=rc _ ry
 obtain ⟨oe,od,J⟩:=Hk I x
 obtain ⟨tl,xc⟩:=x.kl.xc
 exact G9 I.lq xc x.kl.xf J hk fun tk=>⟨.bl b,H,I.tok _,rfl,q⟩
def UN (i:Nat) (e:Addr) (b:Bool):FP:=fun ρ Q=>ρ[i]?=some (some (.ob e,false))∧Q (.vw (.bl b))
theorem gc (i:Nat) {x:Str} {ce:Expr} {cv:V} {c:Value} {b:Bool} {p1 p2 pos:Pos} (xz:Ex X.K Z.H0 e C dd pp) (hP:Z.P=[]) (rc:∀ u,RelV cv u→u=c) (hk:kitOne X.K (.ref C) c=some b) (hg:Gl X "isinstance") (hm:X.mg "isinstance" = none) (hc:PE X ce (tC cv))
  (hN:X.N[i]?=some x:=by rfl) (hv:rY X.env.scope x:=by first | exact Or.inl rfl | exact Or.inr (Or.inl rfl) | exact Or.inr (Or.inr rfl)) (hd:gg x:=by decide) (iB:ug x:=by decide)
  (Ma:starEach [.Name x p1,ce] X.env=(false,eval (.Name x p1) X.env) :: starEach [ce] X.env:=by rfl) (uf:starEach [ce] X.env=(false,eval ce X.env) :: starEach [] X.env:=by rfl) (fE:(backTo pos (starEach [ce] X.env)).any (·.1)=false:=by rfl) :
  VP X Z (.Call (.Name "isinstance" p2) [.Name x p1,ce] [] pos) (UN i e b):=.mk fun tm =>
 PE.weak (kx (DM (e:=e) (C:=C) (dd:=dd) (pp:=pp) rc) hg hm kF (bw (cW hN hv hd iB) (bw hc cX uf) Ma) (by decide) (by decide) Ma fE) fun σ H Q ⟨ρ,O,q,I,hf,k⟩=>by
  obtain ⟨h1,h2⟩:=hf
  obtain ⟨o,s,h3,h4,rfl,v,rfl,h5⟩:=I.sl i _ h1
  simp only [At] at h5
  subst h5
  exact ⟨_,h4,rfl,xz.same (rO hP I),hk,k _ h2 _ H (aK.refl H) ⟨I,cM⟩⟩
def YK (i:Nat) (e:Addr) (n:Int):FP:=fun ρ Q=>ρ[i]?=some (some (.ob e,false))∧Q (.vw (.int n))
theorem DN (i:Nat) {x:Str} {n:Int} {p1 pos:Pos} (xz:Ex X.K Z.H0 e C dd (some n)) (hP:Z.P=[]) (hN:X.N[i]?=some x:=by rfl) (hv:rY X.env.scope x:=by first | exact Or.inl rfl | exact Or.inr (Or.inl rfl) | exact Or.inr (Or.inr rfl)) (hd:gg x:=by decide) (iB:ug x:=by decide)
  (hb:attributeBase (.Name x p1) "place" X.env (eval (.Name x p1) X.env)=eval (.Name x p1) X.env:=by rfl):VP X Z (.Attribute (.Name x p1) "place" pos) (YK i e n):=.mk fun tm pins s σ H Q J ⟨ρ,O,q,I,hf,k⟩=>by
 obtain ⟨h1,h2⟩:=hf
 obtain ⟨o,s',h3,h4,rfl,v,rfl,h5⟩:=I.sl i _ h1
 simp only [At] at h5
 subst h5
 have xh:=xz.same (rO hP I)
 have pv:=cW (pos:=p1) hN hv hd iB pins s σ H (fun v H1=>v = .ref e∧H1=H) J ⟨_,h4,rfl,rfl⟩
 refine Fu hb (bX pv fun u s1 ⟨v,H1,J1,rv,e1,e2⟩=>?_)
 subst e1 e2
 obtain rfl:u=Value.ref e:=rv
 obtain ⟨d,rfl,hd⟩:=xh.pl
 obtain ⟨⟨oe,vs,g1,g2,g3,g4⟩,_,_⟩:=J1.bC e _ xh.ex
 obtain ⟨mA,ns,rel⟩:=J1.bC d _ hd
 obtain ⟨tl,xc⟩:=xh.kl.xc
 obtain ⟨cd,c1,c2,_⟩:=xc.cls
 have rp:jQ (some (V.int n)) (mA "place"):=rel "place"
 cases hm:mA "place" with
 | none=>rw [hm] at rp; exact rp.elim
 | some u =>
   rw [hm] at rp
   obtain ⟨t,rfl⟩:=(show ∃ t,u=Value.int n t from rp)
   exact AA J1.lq xh.kl.xf (by rw [c1]; exact c2) g1 g2 (by unfold PySem.W.notCls; rw [g4]) g3 ns hm rfl ⟨.int n,H1,J1.tok _,⟨t,rfl⟩,k _ h2 _ H1 (aK.refl H1) ⟨I,bE⟩⟩
end
def RL (K:PySem.W.Frag) (G:Addr→Option Int→(T→Prop)→Prop):Sp:=fun vs H Q _=>∃ e C dd p q,vs=[.ref e]∧Ex K H e C dd p∧G C p q∧∀ t,q t→∀ v H',aK H H'→At K H' [] t v→Q v H'
section
variable {P:Program} {w:World} {K:PySem.W.Frag} {mg:Str→Option Value} {base:Heap}
theorem YL {x qual:Str} {st:Stmt} {f:Addr} {fd:FuncData} {N ps:List Str} {k:Nat} {G:Addr→Option Int→(T→Prop)→Prop} (F:BC K x qual st f fd) (S:aI N ps (aj st)) (hn:1=ps.length)
  (iJ:∀ (bD:Value) (A:Around) (outer:List Env) (s:Shared) (H:Hp) (E:XK),bp k (A.deeper (envOfC qual (aj st) s.heap.objs.size f bD))→∀ e C dd p q,Ex K H e C dd p→G C p q →
    ∃ g,lr (dI iN P w K mg base N qual (aj st) f bD A outer s H E).nI ⟨H,[],[]⟩ (cx st) g∧g { nx:=fun _=>q .bu,rt:=fun _ r=>∃ t,r = .vw t∧q t } (some (.ob e,false) :: List.replicate (N.length - 1) none)) :
  cN P w K mg base iN (k+1) f fd ps (RL K G):=by
 refine F.ok S (fun vs H Q E h=>?_) (fun bD A outer s H vs Q E hr h=>?_)
 · obtain ⟨e,C,dd,p,q,rfl,_⟩:=h
   exact hn
 · obtain ⟨e,C,dd,p,q,rfl,xh,hG,kk⟩:=h
   obtain ⟨g,h1,h2⟩:=iJ bD A outer s H E hr e C dd p q xh hG
   refine ⟨_,h1 [],?_⟩
   have ar:dM K H [] [false] [] [.ob e] [.ref e]:=⟨.ob e,[],.ref e,[],rfl,rfl,by simp only [At],rfl,rfl,rfl⟩
   exact oy (X:=(dI iN P w K mg base N qual (aj st) f bD A outer s H E).nI) (N:=N) (fs:=[false]) (as:=[]) (Ox:=[]) (q:=fun _ r=>∃ t,r = .vw t∧q t) JB (fun _ z=>nomatch z) (fun _ z=>nomatch z) ar
    (fun us r ⟨t,er,hq⟩ v H' fr z=>by subst er; exact kk t hq v H' (fun b o y=>fr b o y (by simp)) z.1) (by
      have e1:g { nx:=fun _=>∃ t,Rt.vw T.bu = .vw t∧q t,rt:=fun _ r=>∃ t,r = .vw t∧q t } (some (.ob e,false) :: List.replicate (N.length - 1) none):=by
       have:(∃ t,Rt.vw T.bu = .vw t∧q t)=q .bu:=by
        apply propext
        constructor
        · rintro ⟨t,y,z⟩; cases y; exact z
        · exact fun z=>⟨_,rfl,z⟩
       rw [this]; exact h2
      exact e1)
end
section
variable {X:Cx} {Z:Zc} {e C f:Addr} {dd:Option Addr} {pp:Option Int} {fd:FuncData} {ps:List Str} {k:Nat}
def Mb (i:Nat) (e C:Addr) (pp:Option Int) (G:Addr→Option Int→(T→Prop)→Prop):FP:=fun ρ Q=>ρ[i]?=some (some (.ob e,false))∧G C pp fun t=>qq t=true∧Q (.vw t)
theorem DO (i:Nat) {x y:Str} {p1 p2 pos:Pos} {G:Addr→Option Int→(T→Prop)→Prop} (xz:Ex X.K Z.H0 e C dd pp) (hP:Z.P=[]) (F:cN X.prog X.w X.K X.mg X.base iN k f fd ps (RL X.K G)) (hr:bp k X.A) (hg:Gl X y) (hm:X.mg y=some (.ref f)) (hk:PySem.W.keepIn X.K (.ref f)=true) (hb:Binds X.K fd ps [])
  (hN:X.N[i]?=some x:=by rfl) (hv:rY X.env.scope x:=by first | exact Or.inl rfl | exact Or.inr (Or.inl rfl) | exact Or.inr (Or.inr rfl)) (hd:gg x:=by decide) (iB:ug x:=by decide)
  (n6:gg y:=by decide) (he:starEach [.Name x p1] X.env=(false,eval (.Name x p1) X.env) :: starEach [] X.env:=by rfl) (fE:(backTo pos (starEach [] X.env)).any (·.1)=false:=by rfl) :
  VP X Z (.Call (.Name y p2) [.Name x p1] [] pos) (Mb i e C pp G):=.mk fun tm=>PE.weak (ku F hr hg hm hk hb .nil uA (bw (cW hN hv hd iB) cX he) n6 he fE) fun σ H Q ⟨ρ,O,q,I,hf,kk⟩=>by
 obtain ⟨h1,h2⟩:=hf
 obtain ⟨o,s',h3,h4,rfl,v,rfl,h5⟩:=I.sl i _ h1
 simp only [At] at h5
 subst h5
 refine ⟨_,h4,e,C,dd,pp,_,rfl,xz.same (rO hP I),h2,fun t ⟨hi,hq⟩ v H' s a=>?_⟩
 exact kk _ hq v H' s ⟨I.same s,At.qq hi a⟩
end
theorem Hl {K:PySem.W.Frag} {Z:Zc} {tm:List (T×V)} {O:List (Option Addr)} {ρ:En} {σ:L2.St} {H:Hp} (hP:Z.P=[]) (I:ax K Z tm O ρ σ H) (hv:∀ (i:Nat) (t:T),ρ[i]?≠some (some (t,true))):ax K ⟨H,[],Z.Ox⟩ tm O ρ σ H:=by
 have r0:roots O=[]:=by
  cases hr:roots O with
  | nil=>rfl
  | cons a r =>
    have ha:a∈roots O:=by rw [hr]; exact ij
    obtain ⟨i,hi⟩:=Ju.mp (aN.mp ha)
    have hl:=(fH.mp hi).1
    have Sh:i < ρ.length:=by rw [← I.lO]; exact hl
    obtain ⟨o,s,h1,h2,h3⟩:=I.sl i ρ[i] (by simp)
    rw [hi] at h1
    cases h1
    cases q:ρ[i] with
    | none=>rw [q] at h3; cases h3
    | some tb =>
      obtain ⟨t,b⟩:=tb
      rw [q] at h3
      cases b with
      | false=>cases h3.1
      | true=>exact absurd (by rw [← q]; simp) (hv i t)
 refine ⟨I.lσ,I.lO,I.sl,I.nd,fun a ha=>by (rw [r0] at ha; cases ha),fun p hp=>(nomatch hp),I.ox,fun b o y _=>y,I.nL⟩
theorem jb {K:PySem.W.Frag} {Z:Zc} {H0:Hp} {tm:List (T×V)} {O:List (Option Addr)} {ρ:En} {σ:L2.St} {H:Hp} (hP:Z.P=[]) (s:aK Z.H0 H0) (I:ax K ⟨H0,[],Z.Ox⟩ tm O ρ σ H):ax K Z tm O ρ σ H:=by
 refine ⟨I.lσ,I.lO,I.sl,I.nd,fun a ha=>?_,fun p hp=>by (rw [hP] at hp; cases hp),I.ox,fun b o y _=>I.keep b o (s _ _ y) (by simp),I.nL⟩
 obtain ⟨h1,h2,h3⟩:=I.own a ha
 refine ⟨.inr ?_,h2,h3⟩
 rcases h1 with z | z
 · exact absurd z (by simp)
 · exact s.free z
theorem DP {K:PySem.W.Frag} {Z:Zc} {H0:Hp} {tm:List (T×V)} {d:ID} {D:Ends} (hP:Z.P=[]) (s:aK Z.H0 H0) (F:VT.Fin K Z tm d D):VT.Fin K ⟨H0,[],Z.Ox⟩ tm d D:=by
 refine ⟨fun O ρ σ H I h=>F.nx O ρ σ H (jb hP s I) h,fun O ρ σ H r v z h=>F.rt O ρ σ H r v ?_ h,fun O ρ σ H I h=>F.bk O ρ σ H (jb hP s I) h,fun O ρ σ H I h=>F.ct O ρ σ H (jb hP s I) h⟩
 cases r with
 | vw t=>exact ⟨jb hP s z.1,z.2⟩
 | fr t =>
   obtain ⟨a,rfl,I,hR,h0,hx⟩:=z
   exact ⟨a,rfl,jb (Z:=Z.ex a) hP s I,hR,s.free h0,hx⟩
theorem DQ {K:PySem.W.Frag} {Z:Zc} {tm:List (T×V)} {O:List (Option Addr)} {ρ:En} {σ:L2.St} {H:Hp} {i:Nat} {s:Option V} (I:ax K Z tm O ρ σ H) (hi:ρ[i]?=some none):ax K Z tm O ρ (σ.set i s) H:=by
 refine ⟨by rw [JA]; exact I.lσ,I.lO,fun j e h=>?_,I.nd,I.own,I.par,I.ox,I.keep,I.nL⟩
 obtain ⟨o,s',h1,h2,h3⟩:=I.sl j e h
 by_cases z:j=i
 · subst z
   rw [hi] at h
   cases h
   exact ⟨o,s,h1,by rw [yq ((fH.mp h2).1)],h3⟩
 · exact ⟨o,s',h1,by rw [uk (Ne.symm z)]; exact h2,h3⟩
section
variable {X:Cx} {Z:Zc} {S f:Addr} {ts:List Addr} {fd:FuncData} {ps:List Str} {k ix iz jn ia:Nat} {x z n cl fx y:Str} {p0 p1 p2 p3 p4 p5 p6 p7 p8 p9 pos:Pos} {rest:List Stmt} {G:WT→List T→(Rt→Prop)→Prop} {g1:FS} {g2:Addr→Addr→Int→FS} {g3:Addr→Addr→FS}
def noOwn (ρ:En):Prop:=∀ (i:Nat) (t:T),ρ[i]?≠some (some (t,true))
def gX (g2:Addr→Addr→Int→FS) (g3:Addr→Addr→FS) (e C:Addr):Option Int→FS
 | some n=>g2 e C n
 | none=>g3 e C
def UO (K:PySem.W.Frag) (S:Addr) (ia ix iz jn:Nat) (G:WT→List T→(Rt→Prop)→Prop) (g1:FS) (g2:Addr→Addr→Int→FS) (g3:Addr→Addr→FS):FS:=fun d ρ=>noOwn ρ∧∃ t W,ρ[ia]?=some (some (t,false))∧G W [t] (fun r=>g1 d (ρ.set ix (some (r.t,false)))) ∧
 ∀ C p,W C p→(∃ tl,XC K C tl∧(C=S∨S∈tl))∧XF K C∧∀ e,gX g2 g3 e C p d (((ρ.set jn (some (.ob e,false))).set iz (some (.ob e,false))).set jn none)
theorem DR (hP:Z.P=[]) (st:X.stack=X.env :: X.outer∧X.env.frame=some X.env.locals) (F:cN X.prog X.w X.K X.mg X.base (AE X.prog X.w) k f fd ps (E5 X.K 1 G)) (hr:bp k X.A) (hg:Gl X fx) (hm:X.mg fx=some (.ref f)) (hk:PySem.W.keepIn X.K (.ref f)=true) (hb:Binds X.K fd ps [])
  (UI:Gl X cl) (UJ:X.mg cl=some (.ref S)) (xs:XC X.K S ts) (lJ:∀ y,X.fn y=true) (hex:X.ex=[])
  (hn:lr X Z rest g1) (hx:∀ e C dd n H0,Ex X.K H0 e C dd (some n)→lr X ⟨H0,[],Z.Ox⟩ rest (g2 e C n)) (YM:∀ e C dd H0,Ex X.K H0 e C dd none→lr X ⟨H0,[],Z.Ox⟩ rest (g3 e C))
  (hN:X.N.Nodup) (YN:X.N[ia]?=some y:=by rfl) (UG:X.N[ix]?=some x:=by rfl) (UH:X.N[iz]?=some z:=by rfl) (L':X.N[jn]?=some n:=by rfl) (vy:rY X.env.scope y:=by first | exact Or.inl rfl | exact Or.inr (Or.inl rfl)) (lx:Loc X.env.scope x:=by exact Or.inl rfl) (lz:Loc X.env.scope z:=by exact Or.inl rfl) (ln:X.env.scope.names.lookup n=some .local:=by rfl)
  (d1:gg fx:=by decide) (d2:gg cl:=by decide) (d3:gg n:=by decide) (d4:ug n:=by decide) (d5:gg y:=by decide) (d6:ug y:=by decide)
  (he:starEach [.Name y p9] X.env=(false,eval (.Name y p9) X.env) :: starEach [] X.env:=by rfl) (fE:(backTo p2 (starEach [] X.env)).any (·.1)=false:=by rfl)
  (Ma:swapsWith (.Call (.Name fx p1) [.Name y p9] [] p2) (some (.Name x p0)) p3.line X.env=pure false:=by rfl) (uf:swapsWith (.Name n p5) (some (.Name z p6)) p7.line X.env=pure false:=by rfl) :
  lr X Z (.Try [.Assign [.Name x p0] (.Call (.Name fx p1) [.Name y p9] [] p2) p3] [.ExceptHandler (some (.Name cl p4)) (some n) [.Assign [.Name z p6] (.Name n p5) p7] p8] [] [] pos :: rest) (UO X.K S ia ix iz jn G g1 g2 g3):=by
 refine .mk fun tm pins s σ H D J ⟨ρ,O,d,I,⟨no,t,W,ht,hG,hW⟩,Fn⟩=>?_
 have pt:=Hf (X:=X) (ix:=ix) (iz:=iz) (jn:=jn) (p0:=p0) (p1:=p1) (p2:=p2) (p3:=p3) (p4:=p4) (p5:=p5) (p6:=p6) (p7:=p7) (p8:=p8) (pos:=pos) (a:=.Name y p9) (ta:=Im (JK ia) NW) st F hr hg hm hk hb (fun E1=>bw (X:=X.iH E1) (cW (X:=X.iH E1) YN vy d5 d6) cX he) hN UG UH L' lx lz ln UI UJ xs lJ hex d1 d2 d3 d4 he fE Ma uf
 have R1:∀ pins s σ' H',Inv X pins σ' H' s→((lS X Z tm g1 D σ' H')∨∃ e C dd p H0,Ex X.K H0 e C dd p∧lS X ⟨H0,[],Z.Ox⟩ tm (gX g2 g3 e C p) D σ' H')→wpAny (model X.prog X.w) X.A (execs rest X.env) (SP X pins D) X.xe s:=fun pins s σ' H' J' h=>by
  rcases h with h | ⟨e,C,dd,p,H0,xh,h⟩
  · exact hn tm pins s σ' H' D J' h
  · cases p with
    | some n=>exact hx e C dd n H0 xh tm pins s σ' H' D J' h
    | none=>exact YM e C dd H0 xh tm pins s σ' H' D J' h
 refine wpAny_execs_cons (bX (pt pins s σ H { D with nx:=fun σ' H'=>(lS X Z tm g1 D σ' H')∨∃ e C dd p H0,Ex X.K H0 e C dd p∧lS X ⟨H0,[],Z.Ox⟩ tm (gX g2 g3 e C p) D σ' H' } J ?_) fun fl s1 q=>?_)
 · obtain ⟨o,s',h3,h4,rfl,v,rfl,h5⟩:=I.sl ia _ ht
   refine ⟨v,h4,W,⟨[t],[],av Z O,fun _ r=>g1 d (ρ.set ix (some (r.t,false))),JB,fun _ z=>absurd z d8,I.KJ,dN rfl (aG.cons h5 aG.nil),hG,fun us r hr v' H' fr zz=>?_⟩,fun C p dd H' sm pl hw=>?_⟩
   · have sm:aK H H':=fun b o e=>fr b o e d8
     refine .inl ⟨_,_,d,(I.same sm).put (fun p hp=>by rw [hP] at hp; cases hp) ?_,hr,Fn⟩
     cases r with
     | vw t'=>exact zz.1
     | fr t' =>
       obtain ⟨b,rfl,Uv,_,hR,_⟩:=zz
       obtain ⟨n1,n2,n3⟩:=I.fresh Uv
       refine (hR.bq fun c hc=>jC _ hc).at fun z=>?_
       rcases iw.mp z with y | y
       · exact absurd y d8
       · exact n1 y
   · obtain ⟨⟨tl,xc,hS⟩,xf,YO⟩:=hW C p hw
     refine ⟨C,tl,rfl,xc,hS,fun e n1 n2=>.inr ⟨e,C,dd,p,upd H' e (.ext (L9 C e dd)),⟨aT,?_,⟨tl,xc⟩,xf⟩,?_⟩⟩
     · cases p with
       | none=>exact pl
       | some i =>
         obtain ⟨dx,e1,e2⟩:=pl
         exact ⟨dx,e1,by rw [aE (aW e2 n2)]; exact e2⟩
     · have s2:aK H (upd H' e (.ext (L9 C e dd))):=fun b o y=>by rw [aE (fun z=>by rw [z,n1] at y; cases y)]; exact sm b o y
       have I2:=Hl hP (I.same s2) no
       have CL:∀ i,∀ p∈(⟨upd H' e (.ext (L9 C e dd)),[],Z.Ox⟩:Zc).P,p.1≠i:=fun i p hp=>nomatch hp
       have I3:=((I2.put (i:=jn) (t:=.ob e) (v:=.ref e) (CL _) (by simp only [At])).put (i:=iz) (t:=.ob e) (v:=.ref e) (CL _) (by simp only [At]))
       have I4:=DQ (s:=(none:Option V)) (I3.forget (CL jn)) (by rw [yq (by rw [JA,JA,← I.lσ,J.len]; exact (fH.mp L').1)])
       exact ⟨_,_,d,I4,YO e,DP hP ((rO hP I).trans s2) Fn⟩
 · cases fl with
   | next=>obtain ⟨σ',H',J',q⟩:=q; exact R1 pins s1 σ' H' J' q
   | ret v=>exact q
   | _=>exact q
end
end EX
namespace VT
open PySem PySem.Spec PyProof.Rows L2
def Mc:FS:=fun _ _=>False
theorem rP {X:Cx} {Z:Zc} {ss:List Stmt}:lr X Z ss Mc:=.mk fun tm=>fun pins s σ H D I h=>by
 obtain ⟨_,_,_,_,q,_⟩:=h
 exact q.elim
end VT
namespace Hm
open PySem L2 VT Gen wH EX fB
def top (i:Nat):Stmt:=PySem.Challenge.pw_slicewise_k08_calls_refused.main.body.getD i (.Pass ⟨0,0,0,0⟩)
abbrev gw:Stmt:=top 40
abbrev k9:Stmt:=top 41
abbrev gx:Stmt:=top 42
abbrev vJ:Stmt:=top 43
abbrev s_call:Stmt:=top 44
abbrev jc:Stmt:=top 45
abbrev vK:Stmt:=top 46
abbrev pK:Stmt:=top 47
abbrev gy:Stmt:=top 48
abbrev ib:Stmt:=top 49
abbrev ju:Stmt:=top 50
abbrev tO:Stmt:=top 51
abbrev k_:Stmt:=top 52
abbrev nV:Stmt:=top 53
abbrev ze:Stmt:=top 54
abbrev jO:Stmt:=top 55
abbrev w9:List Str:=["great","row","block","call","text","place","unlike","fault","done"]
structure UP (K:PySem.W.Frag) (mg:Str→Option Value) (S c0 c1 c2 c3 c4 c5 c6 c7 c8:Addr):Prop where
 mS:mg "SliceError" = some (.ref S)
 m0:mg "TooGreat" = some (.ref c0)
 m1:mg "NoRow" = some (.ref c1)
 m2:mg "NoBlock" = some (.ref c2)
 m3:mg "NoCall" = some (.ref c3)
 m4:mg "NoText" = some (.ref c4)
 m5:mg "NoPlace" = some (.ref c5)
 m6:mg "Unlike" = some (.ref c6)
 m7:mg "NoFault" = some (.ref c7)
 m8:mg "Done" = some (.ref c8)
 xs:XC K S []
 nd:[c0,c1,c2,c3,c4,c5,c6,c7,c8].Nodup
 hk:∀ C∈[c0,c1,c2,c3,c4,c5,c6,c7,c8],∀ D∈[c0,c1,c2,c3,c4,c5,c6,c7,c8],PySem.W.kitOne K (.ref C) (.ref D)=some (decide (C=D))
 hv:∀ C∈[c0,c1,c2,c3,c4,c5,c6,c7,c8],PySem.W.kitOne K (.ref C) (.type "ValueError")=some true
 xk:∀ C∈[c0,c1,c2,c3,c4,c5,c6,c7,c8],XC K C [S]∧XF K C
 isinstance:mg "isinstance" = none
 int:mg "int" = none
 bool:mg "bool" = none
 ValueError:mg "ValueError" = none
def DS (cl:List Addr) (C:Addr) (p:Option Int) (q:T→Prop):Prop:=∃ i:Nat,cl[i]?=some C∧q (.str (w9.getD i ""))
theorem Hn {cl:List Addr} (nd:cl.Nodup) {C:Addr} (h:C∈cl):(cl.map fun D=>decide (C=D)).countP (· == true)=1:=by
 rw [List.countP_map]
 have:((fun x=>x == true) ∘ fun D=>decide (C=D))=fun D=>D == C:=by
  funext D
  simp only [Function.comp]
  by_cases z:C=D
  · subst z; simp
  · have z2:D≠C:=fun y=>z y.symm
    simp [z,z2]
 rw [this]
 exact Nat.le_antisymm (List.nodup_iff_count.mp nd C) (List.count_pos_iff.mpr h)
theorem ic {a:Addr}:∀ u,RelV (.ref a) u→u=Value.ref a:=fun _ z=>z
theorem PH {n:String}:∀ u,RelV (.ty n) u→u=Value.type n:=fun _ z=>z
section
variable {P:Program} {w:World} {K:PySem.W.Frag} {mg:Str→Option Value} {base:Heap} {S c0 c1 c2 c3 c4 c5 c6 c7 c8:Addr}
abbrev nW:List Str:=["_law_error","_law_some"]
theorem vL:aI nW ["_law_error"] (aj ib):=L2.gI
theorem DT {f:Addr} {fd:FuncData} (D:Df K mg "_law_which" ib ["_law_error"] f fd) (M:UP K mg S c0 c1 c2 c3 c4 c5 c6 c7 c8):b8 P w K mg base "_law_which" ["_law_error"] 1 (RL K (DS [c0,c1,c2,c3,c4,c5,c6,c7,c8])):=by
 refine D.jo (YL D.F vL rfl fun bD A outer s H E hr e C dd p q xz hG=>?_)
 have nd:=vL.nd
 have hu:=bp.fF hr
 have np:∀ {i:Nat},aX ⟨H,[],[]⟩ i:=kG
 obtain ⟨i,hi,hq⟩:=hG
 have hC:=mW hi
 have vM:=M.hk C hC c0 (by simp)
 have DU:=M.hk C hC c1 (by simp)
 have xG:=M.hk C hC c2 (by simp)
 have AJ:=M.hk C hC c3 (by simp)
 have AK:=M.hk C hC c4 (by simp)
 have xH:=M.hk C hC c5 (by simp)
 have AL:=M.hk C hC c6 (by simp)
 have xI:=M.hk C hC c7 (by simp)
 have Ho:=M.hk C hC c8 (by simp)
 have qM:=M.hv C hC
 have pg:∀ {x:Str} {a:Addr} {pos:Pos},mg x=some (.ref a)→(x == ("__debug__" : Str))=false→Gl (dI iN P w K mg base nW "_law_which" (aj ib) f bD A outer s H E).nI x→PE (dI iN P w K mg base nW "_law_which" (aj ib) f bD A outer s H E).nI (.Name x pos) (tC (.ref a)):=fun hm hd hg=>rZ hg hm rfl hd
 have vN:∀ {pos},_:=fun {pos}=>pg (pos:=pos) M.m0 (by decide) (by rfl)
 have DV:∀ {pos},_:=fun {pos}=>pg (pos:=pos) M.m1 (by decide) (by rfl)
 have xJ:∀ {pos},_:=fun {pos}=>pg (pos:=pos) M.m2 (by decide) (by rfl)
 have AN:∀ {pos},_:=fun {pos}=>pg (pos:=pos) M.m3 (by decide) (by rfl)
 have AO:∀ {pos},_:=fun {pos}=>pg (pos:=pos) M.m4 (by decide) (by rfl)
 have xK:∀ {pos},_:=fun {pos}=>pg (pos:=pos) M.m5 (by decide) (by rfl)
 have AQ:∀ {pos},_:=fun {pos}=>pg (pos:=pos) M.m6 (by decide) (by rfl)
 have xM:∀ {pos},_:=fun {pos}=>pg (pos:=pos) M.m7 (by decide) (by rfl)
 have Hq:∀ {pos},_:=fun {pos}=>pg (pos:=pos) M.m8 (by decide) (by rfl)
 have qN:∀ {pos},PE (dI iN P w K mg base nW "_law_which" (aj ib) f bD A outer s H E).nI (.Name "ValueError" pos) (tC (.ty "ValueError")):=fun {pos} pins s σ H Q I h=>jR I (by rfl) M.ValueError (by decide +kernel) ⟨.ty "ValueError",H,I,rfl,h⟩
 refine ⟨_,(ag (aV (i:=1) nd rfl (Or.inl rfl) (VP.vx (bO (ae (VP.ve (gc 0 xz rfl ic vM (by rfl) M.isinstance vN)) (ae (VP.ve (gc 0 xz rfl ic DU (by rfl) M.isinstance DV)) (ae (VP.ve (gc 0 xz rfl ic xG (by rfl) M.isinstance xJ)) ai))))) np)
   (ag (aV (i:=1) nd rfl (Or.inl rfl) (VP.vx (ba (aa 1) (VP.vr (bO (ae (VP.ve (gc 0 xz rfl ic AJ (by rfl) M.isinstance AN)) (ae (VP.ve (gc 0 xz rfl ic AK (by rfl) M.isinstance AO)) (ae (VP.ve (gc 0 xz rfl ic xH (by rfl) M.isinstance xK)) ai))))))) np)
   (ag (aV (i:=1) nd rfl (Or.inl rfl) (VP.vx (ba (aa 1) (VP.vr (bO (ae (VP.ve (gc 0 xz rfl ic AL (by rfl) M.isinstance AQ)) (ae (VP.ve (gc 0 xz rfl ic xI (by rfl) M.isinstance xM)) (ae (VP.ve (gc 0 xz rfl ic Ho (by rfl) M.isinstance Hq)) ai))))))) np)
   (ag (aS (VW.vc (jI (oq hu (VP.vr (vH (aa 1) (ao (VP.vr jH) aw))) (VP.vr af)) (gL (di (cY (gc 0 xz rfl PH qM (by rfl) M.isinstance qN))))))
     (ah (aD (VP.vx au)))
     aA)
   (ah (aD (VP.vx (aJ (VP.vr (bO (ae (VP.ve au) (ae (VP.ve au) (ae (VP.ve au) (ae (VP.ve au) (ae (VP.ve au) (ae (VP.ve au) (ae (VP.ve au) (ae (VP.ve au) (ae (VP.ve au) ai))))))))))) (VP.vr (vI (aa 1) (ao (VP.vr jH) aw))))))))))),?_⟩
 have YQ:([c0,c1,c2,c3,c4,c5,c6,c7,c8].map fun D=>decide (C=D)).countP (· == true)=1:=Hn M.nd hC
 have fz:i < 9:=(fH.mp hi).1
 refine ⟨rfl,rfl,rfl,small (by simp),rfl,rfl,rfl,small (by simp),small (by simp),rfl,rfl,rfl,small (by simp),small (by simp),?_⟩
 refine ⟨[c0,c1,c2,c3,c4,c5,c6,c7,c8].map fun D=>decide (C=D),true,rfl,rfl,?_⟩
 rw [YQ]
 refine ⟨rfl,small (by simp),[c0,c1,c2,c3,c4,c5,c6,c7,c8].map fun D=>decide (C=D),true,i,rfl,rfl,?_,?_,by simp,?_⟩
 · rw [ly,hi]; simp
 · intro j hj
   rw [ly]
   cases YR:[c0,c1,c2,c3,c4,c5,c6,c7,c8][j]? with
   | none=>simp
   | some D =>
     have:C≠D:=fun z=>by
      subst z
      obtain ⟨a1,a2⟩:=fH.mp hi
      obtain ⟨b1,b2⟩:=fH.mp YR
      have:=(List.getElem_inj M.nd).mp (a2.trans b2.symm)
      omega
     simp [this]
 · refine ⟨_,aq (j:=i) (v:=T.str (w9.getD i "")) ?_,_,rfl,hq⟩
   match i,fz with
   | 0,_=>rfl
   | 1,_=>rfl
   | 2,_=>rfl
   | 3,_=>rfl
   | 4,_=>rfl
   | 5,_=>rfl
   | 6,_=>rfl
   | 7,_=>rfl
   | 8,_=>rfl
def xN (rs:List Rw):T:=match brk [] rs 0 with
 | some i=>.tup [.str "block",.int (i:Int)]
 | none=>match fu rs with
   | some i=>.tup [.str "call",.int (i:Int)]
   | none=>.tup [.str "made",.lst (rs.map aH)]
def PJ (ts:List T) (q:Rt→Prop):Prop:=∃ rs:List Rw,ts=[.lst (rs.map aH)]∧rs.length≤60∧(∀ r∈rs,gr (aH r))∧q (.vw (xN rs))
abbrev AR:List Str:=["_law_rows","_law_error","_law_made","e","_law_word"]
theorem pL:aI AR ["_law_rows"] (aj ju):=L2.gI
theorem xO {f:Addr} {fd:FuncData} (D:Df K mg "_law_outcome" ju ["_law_rows"] f fd) (M:UP K mg S c0 c1 c2 c3 c4 c5 c6 c7 c8) (tQ:AF P w K mg base "program_of" ["rows"] 7 (E5 K 1 (E6.nS c2 c3))) (Hr:b8 P w K mg base "_law_which" ["_law_error"] 1 (RL K (DS [c0,c1,c2,c3,c4,c5,c6,c7,c8]))) :
  b8 P w K mg base "_law_outcome" ["_law_rows"] 8 (bW K 1 PJ):=by
 obtain ⟨Hs,E8,tR,tS,tT,tU⟩:=tQ
 obtain ⟨RM,PK,Ht,Hu,Hv,Hw⟩:=Hr
 refine D.jo (j5 D.F pL rfl fun bD A outer s H E Ox hr ts q hG=>?_)
 have nd:=pL.nd
 have mS:=M.mS
 have xs:=M.xs
 refine ⟨_,(ag (aV (i:=1) nd rfl (Or.inl rfl) (VP.vx jV) kG)
   (ag (aV (i:=2) nd rfl (Or.inl rfl) (VP.vx jV) kG)
   (DR (ia:=0) (ix:=2) (iz:=1) (jn:=3) rfl ⟨rfl,rfl⟩ tU (hr.mono (by decide)) (by rfl) tR tS tT (by rfl) mS xs (fun _=>rfl) rfl
   (ag (aS (uU (aa 1) (VP.vr jV))
     (ah (aD (VP.vx (bc (ae (VP.ve au) (ae (ak 2) ai))))))
     aA) rP)
   (fun e C dd n H0 xz =>
     (ag (aS (uU (aa 1) (VP.vr jV))
       (ah (aD (VP.vx (bc (ae (VP.ve au) (ae (ak 2) ai))))))
       aA)
     (ag (aV (i:=4) nd rfl (Or.inl rfl) (VP.vx (DO 1 xz rfl Hw (hr.mono (by decide)) (by rfl) Ht Hu Hv)) kG)
     (ag (aS (CA (aa 4) (VP.vr (bc (ae (VP.ve au) (ae (VP.ve au) (ae (VP.ve au) ai))))))
       (ag (aS (VW.vc (jI (di (cY (eD uT (by rfl) M.isinstance (by rfl) M.int IL (VP.vr (DN 1 xz rfl))))) (gL (cY (eD rl (by rfl) M.isinstance (by rfl) M.bool CF (VP.vr (DN 1 xz rfl)))))))
         (ah (aD (VP.vx (bc (ae (VP.ve au) (ae (VP.ve af) ai))))))
         aA)
       (ah (aD (VP.vx (bc (ae (ak 4) (ae (VP.ve (DN 1 xz rfl)) ai)))))))
       aA)
     (ah (aD (VP.vx (bc (ae (ak 4) (ae (VP.ve af) ai))))))))))
   (fun _ _ _ _ _=>rP) nd))),fun _=>?_⟩
 obtain ⟨rs,rfl,hn,hA,hq⟩:=hG
 refine ⟨?_,_,fun C p=>(∃ i:Nat,brk [] rs 0=some i∧C=c2∧p=some (i:Int))∨(∃ i:Nat,brk [] rs 0=none∧fu rs=some i∧C=c3∧p=some (i:Int)),rfl,⟨rs,rfl,hn,hA,?_⟩,fun C p hW=>?_⟩
 · intro i t
   match i with
   | 0=>intro z; cases z
   | 1=>intro z; cases z
   | 2=>intro z; cases z
   | 3=>intro z; cases z
   | 4=>intro z; cases z
   | i+5=>intro z; cases z
 · cases hb:brk [] rs 0 with
   | some i=>exact .inl ⟨i,rfl,rfl,rfl⟩
   | none =>
     cases hc:fu rs with
     | some i=>exact .inr ⟨i,rfl,rfl,rfl,rfl⟩
     | none =>
       unfold xN at hq
       rw [hb,hc] at hq
       exact ⟨small (by simp),hq⟩
 · obtain ⟨j,wd,i,hj,hw,T_,hp,ho⟩:∃ (j:Nat) (wd:Str) (i:Nat),[c0,c1,c2,c3,c4,c5,c6,c7,c8][j]?=some C∧w9.getD j "" = wd∧sN (.str wd) [.str "row",.str "block",.str "call"]=true∧p=some (i:Int)∧xN rs = .tup [.str wd,.int (i:Int)]:=by
    rcases hW with ⟨i,h1,rfl,rfl⟩ | ⟨i,h1,h2,rfl,rfl⟩
    · exact ⟨2,"block",i,rfl,rfl,by decide +kernel,rfl,by unfold xN; rw [h1]⟩
    · exact ⟨3,"call",i,rfl,rfl,by decide +kernel,rfl,by unfold xN; rw [h1,h2]⟩
   have hC:=mW hj
   obtain ⟨x1,x2⟩:=M.xk C hC
   subst hp
   refine ⟨⟨[S],x1,.inr (by simp)⟩,x2,fun e=>?_⟩
   rw [ho] at hq
   refine ⟨rfl,⟨j,hj,rfl,?_⟩⟩
   rw [hw]
   refine ⟨small (by simp),rfl,rfl,?_⟩
   refine zb (c:=sN (.str wd) [.str "row",.str "block",.str "call"]) T_ ?_
   first
    | exact ⟨rfl,rfl,rfl,rfl,rfl,small (by simp),hq⟩
    | exact ⟨rfl,rfl,rfl,rfl,small (by simp),hq⟩
    | exact ⟨rfl,rfl,rfl,rfl,rfl,rfl,small (by simp),hq⟩
    | exact ⟨rfl,rfl,rfl,rfl,rfl,hq⟩
    | exact ⟨rfl,rfl,rfl,rfl,rfl,rfl,hq⟩
end
end Hm
namespace d7
open PySem L2 VT Gen
open wH (bx)
def top (i:Nat):Stmt:=PySem.Challenge.pw_slicewise_k08_calls_refused.main.body.getD i (.Pass ⟨0,0,0,0⟩)
abbrev gw:Stmt:=top 40
abbrev k9:Stmt:=top 41
abbrev gx:Stmt:=top 42
abbrev vJ:Stmt:=top 43
abbrev s_call:Stmt:=top 44
abbrev jc:Stmt:=top 45
abbrev vK:Stmt:=top 46
abbrev pK:Stmt:=top 47
abbrev gy:Stmt:=top 48
structure Md (mg:Str→Option Value):Prop where
 len:mg "len" = none
 range:mg "range" = none
 tuple:mg "tuple" = none
 sum:mg "sum" = none
def Jg (ts:List T) (q:Rt→Prop):Prop:=∃ (ns:List Int) (j:Nat),ts=[.lst (ns.map .int),.int (j:Int)]∧q (.vw (.int (ns.getD j 0)))
def DW (ts:List T) (q:Rt→Prop):Prop:=∃ (c:Int) (m:Nat),ts=[.int c,.int (m:Int)]∧2≤m∧m≤20∧q (.fr (.lst ((cO c m).map .str)))
section
variable {P:Program} {w:World} {K:PySem.W.Frag} {mg:Str→Option Value} {base:Heap}
abbrev AS:List Str:=["_law_script","_law_k"]
theorem pM:aI AS ["_law_script","_law_k"] (aj gw):=L2.gI
theorem xP {f:Addr} {fd:FuncData} (D:Df K mg "_law_cell_at" gw ["_law_script","_law_k"] f fd) (M:Md mg):b8 P w K mg base "_law_cell_at" ["_law_script","_law_k"] 1 (bW K 2 Jg):=by
 refine D.jo (j5 D.F pM rfl fun bD A outer s H E Ox hr ts q hG=>?_)
 have nd:=pM.nd
 refine ⟨_,(ag (aS (gj (aa 1) (VP.vr (aB ay az (by rfl) M.len gE (ao (aa 0) aw))))
    (ah (aD (VP.vx (aJ (aa 0) (aa 1)))))
    aA)
   (ah (aD (VP.vx af)))),fun _=>?_⟩
 obtain ⟨ns,j,rfl,hq⟩:=hG
 refine B7 (fun h=>?_) (fun h=>?_)
 · have h':(j:Int) < ((ns.map T.int).length:Int):=of_decide_eq_true h
   rw [bZ] at h'
   have hj:j < ns.length:=by omega
   refine ⟨.int (ns.getD j 0),aq ?_,hq⟩
   rw [ly,kg hj,List.getD,kg hj]
   rfl
 · have h':¬ ((j:Int) < ((ns.map T.int).length:Int)):=fun z=>h (decide_eq_true z)
   rw [bZ] at h'
   have e:ns.getD j 0=0:=by
    rw [List.getD,List.getElem?_eq_none (by omega)]
    rfl
   rw [e] at hq
   exact hq
abbrev Hx:List Str:=["_law_cell","_law_many","_law_letters","_law_size","_law_at","_law_words_here","_law_k","_law_word","_law_j","_law_number"]
theorem vO:aI Hx ["_law_cell","_law_many"] (aj k9):=L2.gI
theorem DY {f:Addr} {fd:FuncData} (D:Df K mg "_law_words" k9 ["_law_cell","_law_many"] f fd) (M:Md mg):b8 P w K mg base "_law_words" ["_law_cell","_law_many"] 1 (bW K 2 DW):=by
 refine D.jo (j5 D.F vO rfl fun bD A outer s H E Ox hr ts q hG=>?_)
 have nd:=vO.nd
 have hu:=bp.fF hr
 have np:∀ {i:Nat},aX ⟨H,[],Ox⟩ i:=kG
 refine ⟨_,(ag (aV (i:=2) nd rfl (Or.inl rfl) (VP.vx au) np)
   (ag (aV (i:=0) nd rfl (Or.inl rfl) (VP.vx (aU (aa 0) (VP.vr (jY (VP.vr af) (VP.vr af))))) np)
   (ag (aV (i:=3) nd rfl (Or.inl rfl) (VP.vx (ba (VP.vr af) (VP.vr (aU (aa 0) (VP.vr af))))) np)
   (ag (aV (i:=4) nd rfl (Or.inl rfl) (VP.vx (aU (VP.vr (a_ (aa 0) (VP.vr af))) (aa 3))) np)
   (ag (fQ (i:=5) nd rfl (Or.inl rfl) (VP.vx (bO ai)) np)
   (ag (dm Bt rfl (cL (by rfl) M.range (aa 1)) (aQ (i:=6) nd rfl (Or.inl rfl) np)
     (ag (aV (i:=7) nd rfl (Or.inl rfl) (VP.vx au) np)
     (ag (dm Bt rfl (cL (by rfl) M.range (aa 3)) (aQ (i:=8) nd rfl (Or.inl rfl) np)
       (ag (aV (i:=9) nd rfl (Or.inl rfl) (VP.vx (ba (VP.vr (a_ (VP.vr (a_ (aa 0) (VP.vr af))) (VP.vr (ba (aa 8) (VP.vr af))))) (VP.vr (fP (aa 8) (aa 8))))) np)
       (ag (aS (bz hu (aa 8) (aa 4))
         (ah (K1 (i:=9) nd rfl (Or.inl rfl) (aa 6) Fq Cn np))
         aA)
       (ah (aV (i:=7) nd rfl (Or.inl rfl) (VP.vx (ba (aa 7) (VP.vr (aJ (aa 2) (VP.vr (aU (aa 9) (VP.vr af))))))) np)))))
     (ah (bf (dY 5 ui uj bh bb (ae (ak 7) ai)))))))
   (ag (aS (bz hu (VP.vr (aU (VP.vr (a_ (aa 0) (VP.vr af))) (VP.vr af))) (VP.vr af))
     (ah (wL 5 (VP.ve (ba (VP.vr (aJ (aa 5) (VP.vr af))) (VP.vr (aJ (aa 2) (VP.vr (aU (VP.vr (a_ (aa 0) (VP.vr af))) (VP.vr af))))))) (VP.vr af)))
     aA)
   (ah (aD (jh 5 np)))))))))),fun _=>?_⟩
 obtain ⟨c,m,rfl,hm2,YS,hq⟩:=hG
 have UQ:(10:Int) ^ (12:Int).toNat=1000000000000:=Pe
 have hz:(1:Int)+c % (10:Int) ^ (12:Int).toNat % 7=(jF c:Int):=by rw [UQ]; exact (IV c).symm
 have q9:=oW c
 refine ⟨⟨by decide,by decide,by decide⟩,(by show (0:Int) < 10 ^ (12:Int).toNat; decide),(by show (0:Int) < 7; decide),⟨by decide,by decide⟩,(by show (0:Int) < 1+c % 10 ^ (12:Int).toNat % 7; rw [hz]; omega),km _,by omega,by omega,?_⟩
 refine dO (fun k ρ=>∃ kv wv jv nv,ρ=[some (.int (qD c),false),some (.int (m:Int),false),some (.str bx,false),some (.int (jF c:Int),false),some (.int (Ab c:Int),false),some (.lst (((List.range k).map fun k=>bQ c k (jF c)).map .str),true),kv,wv,jv,nv]) ⟨none,none,none,none,?_⟩ ?_ ?_
 · have ha:c % (10:Int) ^ (12:Int).toNat / 7 % (1+c % (10:Int) ^ (12:Int).toNat % 7)=(Ab c:Int):=by rw [hz,UQ]; exact (IW c).symm
   show [some (T.int (c % (10:Int) ^ (12:Int).toNat),false),_,_,some (T.int (1+c % (10:Int) ^ (12:Int).toNat % 7),false),some (T.int (c % (10:Int) ^ (12:Int).toNat / 7 % (1+c % (10:Int) ^ (12:Int).toNat % 7)),false),_,_,_,_,_]=_
   rw [ha,hz,UQ]
   rfl
 · rintro k ρ hk ⟨kv,wv,jv,nv,rfl⟩
   refine ⟨by omega,by omega,?_⟩
   refine dO (fun j ρ=>∃ jv nv,ρ=[some (.int (qD c),false),some (.int (m:Int),false),some (.str bx,false),some (.int (jF c:Int),false),some (.int (Ab c:Int),false),some (.lst (((List.range k).map fun k=>bQ c k (jF c)).map .str),true),some (.int (0+(k:Int)),false),some (.str (bQ c k j),false),jv,nv]) ⟨_,_,rfl⟩ ?_ ?_
   · rintro j ρ hj ⟨jv,nv,rfl⟩
     have OK:j < jF c:=by omega
     refine ⟨⟨by decide,by decide⟩,⟨by show (0:Int) < 0+(j:Int)+1; omega,by show 0+(j:Int)+1 < 1073741824; omega⟩,.inl ⟨by show -(2 ^ 64) < 0+(j:Int); omega,by show 0+(j:Int) < 2 ^ 64; omega⟩,?_⟩
     have last:∀ n:Int,n=sT c k j→∃ c',jS bx.cps.toList (n % 26)=some c'∧(bQ c k j).length+(Str.mk #[c']).length≤sizeLine∧(bQ c k j ++ ⟨#[c']⟩)=bQ c k (j+1):=by
      rintro n rfl
      refine ⟨_,rA _,?_,(xa c k j).symm⟩
      rw [eF,sizeLine_eq]
      show j+1≤16777216
      omega
     refine b_ (fun h=>?_) (fun h=>?_)
     · have UR:j=Ab c:=by have h:(0:Int)+(j:Int)=(Ab c:Int):=h; omega
       obtain ⟨c',h1,h2,h3⟩:=last (qD c / 49 / (0+(j:Int)+1)+(0+(j:Int)) * (0+(j:Int))+(0+(k:Int))) (by unfold sT; rw [if_pos UR]; simp only [Ig])
       exact ⟨by show (0:Int) < 26; decide,fS,c',h1,h2,_,_,by rw [← h3]; rfl⟩
     · have UR:¬ j=Ab c:=fun z=>h (by show (0:Int)+(j:Int)=(Ab c:Int); omega)
       obtain ⟨c',h1,h2,h3⟩:=last (qD c / 49 / (0+(j:Int)+1)+(0+(j:Int)) * (0+(j:Int))) (by unfold sT; rw [if_neg UR]; simp only [Ig,Int.add_zero])
       exact ⟨by show (0:Int) < 26; decide,fS,c',h1,h2,_,_,by rw [← h3]; rfl⟩
   · rintro ρ ⟨jv,nv,rfl⟩
     refine ⟨?_,some (.int (0+(k:Int)),false),some (.str (bQ c k (jF c)),false),jv,nv,?_⟩
     · rw [bZ,bZ,EJ,sizeLine_eq]; omega
     · rw [List.range_succ,ud,ud]; rfl
 · rintro ρ ⟨kv,wv,jv,nv,rfl⟩
   refine ⟨⟨by decide,by decide⟩,(by show (0:Int) < 3; decide),b_ (fun h=>?_) (fun h=>?_)⟩
   · have hc:qD c / 49 % 3=1:=h
     have e0:jS (((List.range m).map fun k=>bQ c k (jF c)).map T.str) 0=some (T.str (bQ c 0 (jF c))):=by
      refine aq (j:=0) ?_
      rw [ly,ly,List.getElem?_range (by omega)]
      rfl
     refine ⟨_,e0,⟨by decide,by decide⟩,(by show (0:Int) < 26; decide),fS,_,rA _,?_,1,?_,?_⟩
     · rw [eF,sizeLine_eq]
       show jF c+1≤16777216
       omega
     · unfold yC
       rw [if_pos (by decide),if_pos (by rw [bZ,bZ,EJ]; omega)]
       rfl
     · have e:(cO c m).map T.str=(((List.range m).map fun k=>bQ c k (jF c)).map T.str).set 1 (T.str (bQ c 0 (jF c) ++ ⟨#[gn (qD c / 147)]⟩)):=by
        unfold cO
        rw [if_pos hc,List.map_set]
       rw [e] at hq
       exact hq
   · have hc:¬ qD c / 49 % 3=1:=h
     have e:(cO c m).map T.str=(((List.range m).map fun k=>bQ c k (jF c)).map T.str):=by
      unfold cO
      rw [if_neg hc]
     rw [e] at hq
     exact hq
end
def gz (ts:List T) (q:Rt→Prop):Prop:=∃ (n:Int) (ys:List Str),ts=[.int n,.lst (ys.map .str)]∧ys.length=6∧0≤n∧n < 2147483648∧∀ o,cy ys o→q (.vw (lu o))
def PL (ts:List T) (q:Rt→Prop):Prop:=∃ (n:Int) (ys:List Str),ts=[.int n,.lst (ys.map .str)]∧ys.length=6∧(∀ y∈ys,y.length≤100)∧0≤n∧n < 2147483648∧∀ k,Ad ys k→q (.vw (GJ k))
def Jh (ts:List T) (q:Rt→Prop):Prop:=∃ (n:Int) (x:Str) (ys:List Str) (pl:Plan),ts=[.int n,.str x,.lst (ys.map .str),.lst (pl.map bj)]∧ys.length=6∧pl≠[]∧pl.length≤3∧(∀ p∈pl,p.2.length≤4)∧x∈ys∧0≤n∧n < 2147483648 ∧
 ∀ f as,iX ys pl (.call x f as)→q (.vw (aH (.call x f as)))
structure Given (ys:List Str) (pl:Plan):Prop where
 y6:ys.length=6
 sm:∀ y∈ys,y.length≤100
 p3:pl.length≤3
 p4:∀ p∈pl,p.2.length≤4
def zf (ts:List T) (q:Rt→Prop):Prop:=∃ (n:Int) (ys:List Str) (pl:Plan),ts=[.int n,.lst (ys.map .str),.lst (pl.map bj)]∧Given ys pl∧0≤n∧n < 2147483648∧∀ r,iX ys pl r→q (.vw (aH r))
section
variable {P:Program} {w:World} {K:PySem.W.Frag} {mg:Str→Option Value} {base:Heap}
abbrev AU:List Str:=["_law_number","_law_words_here"]
theorem pN:aI AU ["_law_number","_law_words_here"] (aj gx):=L2.gI
theorem j8 {f:Addr} {fd:FuncData} (D:Df K mg "_law_operand" gx ["_law_number","_law_words_here"] f fd):b8 P w K mg base "_law_operand" ["_law_number","_law_words_here"] 1 (bW K 2 gz):=by
 refine D.jo (j5 D.F pN rfl fun bD A outer s H E Ox hr ts q hG=>?_)
 have nd:=pN.nd
 have hu:=bp.fF hr
 refine ⟨_,(ag (aS (rh (VP.vr (aU (aa 0) (VP.vr af))) (VP.vr af))
    (ah (aD (VP.vx (aJ (aa 1) (VP.vr (aU (VP.vr (a_ (aa 0) (VP.vr af))) (VP.vr af)))))))
    aA)
   (ag (aS (bz hu (VP.vr (aU (aa 0) (VP.vr af))) (VP.vr af))
     (ah (aD (VP.vx (om (VP.vr (aU (VP.vr (ba (VP.vr (fP (VP.vr (fP (aa 0) (VP.vr af))) (VP.vr (jY (VP.vr af) (VP.vr af))))) (aa 0))) (VP.vr (fP (VP.vr af) (VP.vr (jY (VP.vr af) (VP.vr af))))))) (VP.vr (jY (VP.vr af) (VP.vr af)))))))
     aA)
   (ah (aD (VP.vx (om (VP.vr (aU (VP.vr (a_ (aa 0) (VP.vr af))) (VP.vr af))) (VP.vr af))))))),fun _=>?_⟩
 obtain ⟨n,ys,rfl,xQ,PM,RN,hq⟩:=hG
 refine ⟨(by show (0:Int) < 3; decide),b_ (fun _=>?_) (fun _=>?_)⟩
 · obtain ⟨y,hy,e⟩:=kM xQ (n:=n / 3) (m:=4) (by decide) (by decide)
   exact ⟨⟨by decide,by decide⟩,(by show (0:Int) < 4; decide),_,e,hq (.nm y) hy⟩
 · refine ⟨(by show (0:Int) < 15; decide),b_ (fun _=>?_) (fun _=>?_)⟩
   · refine ⟨.inr ⟨by decide,by decide⟩,⟨by decide,by decide,by decide⟩,.inl ⟨by show -(2 ^ 64:Int) < n * 1000003; omega,by show n * 1000003 < (2 ^ 64:Int); omega⟩,⟨by decide,by decide,by decide⟩,.inl ⟨by decide,by decide⟩,(by show (0:Int) < 2 * 10 ^ (30:Int).toNat; decide),⟨by decide,by decide,by decide⟩,hq (.nu _) ?_⟩
     show -1000000000000000000000000000000≤(n * 1000003 * 10 ^ (20:Int).toNat+n) % (2 * 10 ^ (30:Int).toNat) - 10 ^ (30:Int).toNat∧(n * 1000003 * 10 ^ (20:Int).toNat+n) % (2 * 10 ^ (30:Int).toNat) - 10 ^ (30:Int).toNat < 1000000000000000000000000000000
     rw [Pf]
     have h0:=lp (n * 1000003 * 10 ^ (20:Int).toNat+n) (show (2 * 1000000000000000000000000000000:Int)≠0 by decide)
     have h1:=mX (n * 1000003 * 10 ^ (20:Int).toNat+n) (show (0:Int) < 2 * 1000000000000000000000000000000 by decide)
     exact ⟨by omega,by omega⟩
   · refine ⟨⟨by decide,by decide⟩,(by show (0:Int) < 9; decide),hq (.nu _) ?_⟩
     show -1000000000000000000000000000000≤n / 3 % 9 - 4∧n / 3 % 9 - 4 < 1000000000000000000000000000000
     have h0:=lp (n / 3) (show (9:Int)≠0 by decide)
     have h1:=mX (n / 3) (show (0:Int) < 9 by decide)
     exact ⟨by omega,by omega⟩
abbrev PN:List Str:=["_law_number","_law_words_here"]
theorem DZ:aI PN ["_law_number","_law_words_here"] (aj vJ):=L2.gI
theorem Me {f:Addr} {fd:FuncData} (D:Df K mg "_law_key" vJ ["_law_number","_law_words_here"] f fd) (c1:b8 P w K mg base "_law_operand" ["_law_number","_law_words_here"] 1 (bW K 2 gz)):b8 P w K mg base "_law_key" ["_law_number","_law_words_here"] 2 (bW K 2 PL):=by
 obtain ⟨jw,ie,bK,bL,bM,bN⟩:=c1
 refine D.jo (j5 D.F DZ rfl fun bD A outer s H E Ox hr ts q hG=>?_)
 have nd:=DZ.nd
 have hu:=bp.fF hr
 refine ⟨_,(ag (aS (bz hu (VP.vr (aU (aa 0) (VP.vr af))) (VP.vr af))
    (ah (aD (VP.vx (ba (VP.vr au) (VP.vr (aJ (aa 1) (VP.vr (aU (VP.vr (a_ (aa 0) (VP.vr af))) (VP.vr af)))))))))
    aA)
   (ah (aD (VP.vx (aL bN (hr.mono (by decide)) (by rfl) bK bL bM (ae (VP.ve (a_ (aa 0) (VP.vr af))) (ae (ak 1) ai))))))),fun _=>?_⟩
 obtain ⟨n,ys,rfl,xQ,YT,PM,RN,hq⟩:=hG
 refine ⟨(by show (0:Int) < 2; decide),b_ (fun _=>?_) (fun _=>?_)⟩
 · obtain ⟨y,hy,e⟩:=kM xQ (n:=n / 2) (m:=2) (by decide) (by decide)
   refine ⟨⟨by decide,by decide⟩,(by show (0:Int) < 2; decide),_,e,?_,hq (.fld y) hy⟩
   rw [Ur,sizeLine_eq]
   have:=YT y hy
   omega
 · exact ⟨⟨by decide,by decide⟩,rfl,_,ys,rfl,xQ,by show 0≤n / 2; omega,by show n / 2 < 2147483648; omega,fun o ho=>hq (.op o) ho⟩
abbrev Mf:List Str:=["_law_number","_law_name","_law_words_here","_law_later","_law_other","_law_parameters","_law_operands","_law_k"]
theorem zg:aI Mf ["_law_number","_law_name","_law_words_here","_law_later"] (aj s_call):=L2.gI
theorem Hy {f:Addr} {fd:FuncData} (D:Df K mg "_law_call" s_call ["_law_number","_law_name","_law_words_here","_law_later"] f fd) (M:Md mg) (c1:b8 P w K mg base "_law_operand" ["_law_number","_law_words_here"] 1 (bW K 2 gz)) :
  b8 P w K mg base "_law_call" ["_law_number","_law_name","_law_words_here","_law_later"] 2 (bW K 4 Jh):=by
 obtain ⟨jw,ie,bK,bL,bM,bN⟩:=c1
 refine D.jo (j5 D.F zg rfl fun bD A outer s H E Ox hr ts q hG=>?_)
 have nd:=zg.nd
 have np:∀ {i:Nat},aX ⟨H,[],Ox⟩ i:=kG
 refine ⟨_,(ag (Cu (VP.ve (aJ (aa 3) (VP.vr (aU (aa 0) (VP.vr (aB ay az (by rfl) M.len gE (ao (aa 3) aw))))))) (gO (n:=2) rfl (bt (aQ (i:=4) nd rfl (Or.inl rfl) np) (bt (aQ (i:=5) nd rfl (Or.inl rfl) np) eB))))
   (ag (fQ (i:=6) nd rfl (Or.inl rfl) (VP.vx (bO ai)) np)
   (ag (dm Bt rfl (cL (by rfl) M.range (VP.vr (aB ay az (by rfl) M.len gE (ao (aa 5) aw)))) (aQ (i:=7) nd rfl (Or.inl rfl) np)
     (ah (bf (dY 6 ui uj bh bb (ae (VP.ve (aL bN (hr.mono (by decide)) (by rfl) bK bL bM (ae (VP.ve (a_ (aa 0) (VP.vr (ba (VP.vr (aB ay az (by rfl) M.len gE (ao (aa 3) aw))) (aa 7))))) (ae (ak 2) ai)))) ai)))))
   (ah (aD (VP.vx (bc (ae (VP.ve au) (ae (ak 1) (ae (ak 4) (ae (VP.ve (eE fO iS (by rfl) M.tuple kH (ao (aa 6) aw))) ai))))))))))),fun _=>?_⟩
 obtain ⟨n,x,ys,pl,rfl,xQ,qb,YU,Wx,hx,PM,RN,hq⟩:=hG
 have YV:0 < pl.length:=by cases pl with | nil=>exact absurd rfl qb | cons a r=>simp
 have eL:((pl.map bj).length:Int)=pl.length:=by rw [bZ]
 have h0:0≤n % ((pl.map bj).length:Int):=lp n (by omega)
 have h1:n % ((pl.map bj).length:Int) < pl.length:=by rw [eL]; exact mX n (by omega)
 obtain ⟨j,hj⟩:=EI h0
 have RK:j < pl.length:=by omega
 obtain ⟨p,hp⟩:∃ p:Str×List Str,p=pl[j]:=⟨_,rfl⟩
 obtain ⟨fn,ps⟩:=p
 have D_:(fn,ps)∈pl:=by rw [hp]; exact BI RK
 have YW:ps.length≤4:=Wx _ D_
 refine ⟨(by show (0:Int) < ((pl.map bj).length:Int); omega),bj (fn,ps),?_,rfl,?_⟩
 · rw [hj]
   refine aq ?_
   rw [ly,kg RK,← hp]
   rfl
 refine ⟨rfl,km _,by omega,by show ((ps.map T.str).length:Int) < 2 ^ 62; rw [bZ]; omega,?_⟩
 refine dO (fun k ρ=>∃ kv os as,ρ=[some (.int n,false),some (.str x,false),some (.lst (ys.map .str),false),some (.lst (pl.map bj),false),some (.str fn,false),some (.tup (ps.map .str),false),some (.lst os,true),kv]∧os=as.map lu∧as.length=k∧∀ a∈as,cy ys a)
  ⟨none,[],[],rfl,rfl,rfl,fun _ z=>nomatch z⟩ ?_ ?_
 · rintro k ρ hk ⟨kv,_,as,rfl,rfl,rfl,lJ⟩
   have O9:as.length < ps.length:=by rw [bZ,Ia] at hk; exact hk
   clear hk
   refine ⟨⟨by show (0:Int) < ((pl.map bj).length:Int)+(0+(as.length:Int)); omega,by show ((pl.map bj).length:Int)+(0+(as.length:Int)) < 1073741824; omega⟩,rfl,_,ys,rfl,xQ,?_,?_,fun o ho=>⟨?_,_,_,as ++ [o],rfl,?_,by simp,fun a ha=>?_⟩⟩
   · exact Int.ediv_nonneg PM (by omega)
   · exact Int.lt_of_le_of_lt (Int.ediv_le_self _ PM) RN
   · rw [bZ,sizeLine_eq]; omega
   · rw [ud]; rfl
   · rcases iw.mp ha with z | z
     · exact lJ a z
     · rw [um.mp z]; exact ho
 · rintro ρ ⟨kv,_,as,rfl,rfl,hlen,lJ⟩
   refine ⟨by show 4≤sizeLine; rw [sizeLine_eq]; decide,hq fn as ⟨hx,⟨ps,D_,?_⟩,lJ⟩⟩
   rw [hlen,bZ]; rfl
end
theorem fits {n:Nat} (h:n≤1001):n < sizeLine:=by rw [sizeLine_eq]; omega
theorem j7 {n:Nat} (h:n≤8):n≤sizeLine:=small (by omega)
def US (q:Rt→Prop) (n:Int) (ys:List Str) (pl:Plan) (y z:Str):FS:=fun d ρ=>(∃ wv,ρ=[some (.int n,false),some (.lst (ys.map .str),false),some (.lst (pl.map bj),false),some (.int (n % 13),false),some (.str y,false),some (.str z,false),some (.int (n / 208),false),wv])∧∀ ρ r,q r→d.rt ρ r
def PQ:GT:=fun ts q=>∃ (rs:List Rw) (bG:List Str) (c:Int) (ys:List Str) (pl:Plan),ts=[.lst (rs.map aH),.lst (bG.map .str),.int c,.lst (ys.map .str),.lst (pl.map bj)]∧Given ys pl∧rs.length≤1000∧bG.length≤1000 ∧
 ∀ new cZ,lZ ys pl bG new cZ→q [.lst ((rs ++ new).map aH),.lst (cZ.map .str)] (.vw .bu)
section
variable {P:Program} {w:World} {K:PySem.W.Frag} {mg:Str→Option Value} {base:Heap}
abbrev D':List Str:=["_law_number","_law_words_here","_law_later","_law_kind","_law_name","_law_other","_law_rest","_law_word"]
theorem rQ:aI D' ["_law_number","_law_words_here","_law_later"] (aj jc):=L2.gI
theorem AV {f:Addr} {fd:FuncData} (D:Df K mg "_law_simple" jc ["_law_number","_law_words_here","_law_later"] f fd) (c1:b8 P w K mg base "_law_operand" ["_law_number","_law_words_here"] 1 (bW K 2 gz))
  (c2:b8 P w K mg base "_law_key" ["_law_number","_law_words_here"] 2 (bW K 2 PL)) (c3:b8 P w K mg base "_law_call" ["_law_number","_law_name","_law_words_here","_law_later"] 2 (bW K 4 Jh)) :
  b8 P w K mg base "_law_simple" ["_law_number","_law_words_here","_law_later"] 3 (bW K 3 zf):=by
 obtain ⟨jw,ie,bK,bL,bM,bN⟩:=c1
 obtain ⟨WG,UT,Ji,Jj,Jk,Jl⟩:=c2
 obtain ⟨UU,RO,Mg,Mh,Mi,Mj⟩:=c3
 refine D.jo (j5 D.F rQ rfl fun bD A outer s H E Ox hr ts q hG=>?_)
 have nd:=rQ.nd
 have hu:=bp.fF hr
 have np:∀ {i:Nat},aX ⟨H,[],Ox⟩ i:=kG
 obtain ⟨n,ys,pl,rfl,G,PM,RN,hq⟩:=hG
 obtain ⟨y,hy,ey⟩:=kM G.y6 (n:=n / 13) (m:=4) (by decide) (by decide)
 obtain ⟨z,hz,ez⟩:=kM G.y6 (n:=n / 52) (m:=4) (by decide) (by decide)
 refine ⟨_,(ag (aV (i:=3) nd rfl (Or.inl rfl) (VP.vx (aU (aa 0) (VP.vr af))) np)
   (ag (aV (i:=4) nd rfl (Or.inl rfl) (VP.vx (aJ (aa 1) (VP.vr (aU (VP.vr (a_ (aa 0) (VP.vr af))) (VP.vr af))))) np)
   (ag (aV (i:=5) nd rfl (Or.inl rfl) (VP.vx (aJ (aa 1) (VP.vr (aU (VP.vr (a_ (aa 0) (VP.vr af))) (VP.vr af))))) np)
   (ag (aV (i:=6) nd rfl (Or.inl rfl) (VP.vx (a_ (aa 0) (VP.vr af))) np)
   (ag (aS (gj (aa 3) (VP.vr af))
     (ah (aD (VP.vx (bc (ae (VP.ve au) (ae (ak 4) (ae (VP.ve (aL bN (hr.mono (by decide)) (by rfl) bK bL bM (ae (ak 6) (ae (ak 1) ai)))) ai)))))))
     aA)
   (ag (aS (gj (aa 3) (VP.vr af))
     (ag (aV (i:=7) nd rfl (Or.inl rfl) (VP.vx (aJ (VP.vr (bO (ae (VP.ve au) (ae (VP.ve au) (ae (VP.ve au) (ae (VP.ve au) (ae (VP.ve au) (ae (VP.ve au) (ae (VP.ve au) ai))))))))) (VP.vr (aU (aa 6) (VP.vr af))))) np)
     (ah (aD (VP.vx (bc (ae (VP.ve au) (ae (ak 4) (ae (VP.ve (aL bN (hr.mono (by decide)) (by rfl) bK bL bM (ae (VP.ve (a_ (aa 6) (VP.vr af))) (ae (ak 1) ai)))) (ae (ak 7) (ae (VP.ve (aL bN (hr.mono (by decide)) (by rfl) bK bL bM (ae (VP.ve (a_ (aa 6) (VP.vr af))) (ae (ak 1) ai)))) ai))))))))))
     aA)
   (ag (aS (bz hu (aa 3) (VP.vr af))
     (ah (aD (VP.vx (bc (ae (VP.ve au) (ae (ak 4) ai))))))
     aA)
   (ag (aS (gj (aa 3) (VP.vr af))
     (ah (aD (VP.vx (bc (ae (VP.ve au) (ae (ak 4) (ae (ak 5) (ae (VP.ve (aL Jl (hr.mono (by decide)) (by rfl) Ji Jj Jk (ae (ak 6) (ae (ak 1) ai)))) ai))))))))
     aA)
   (ag (aS (gj (aa 3) (VP.vr af))
     (ah (aD (VP.vx (bc (ae (VP.ve au) (ae (ak 5) (ae (VP.ve (aL Jl (hr.mono (by decide)) (by rfl) Ji Jj Jk (ae (ak 6) (ae (ak 1) ai)))) (ae (VP.ve (aL bN (hr.mono (by decide)) (by rfl) bK bL bM (ae (VP.ve (a_ (aa 6) (VP.vr af))) (ae (ak 1) ai)))) ai))))))))
     aA)
   (ag (aS (VW.vc (dh (bz hu (aa 3) (VP.vr af)) (cH (oq hu (aa 2) (VP.vr (bO ai))))))
     (ah (aD (VP.vx (aL Mj (hr.mono (by decide)) (by rfl) Mg Mh Mi (ae (ak 6) (ae (ak 4) (ae (ak 1) (ae (ak 2) ai))))))))
     aA)
   (lr.weak (u:=(US q n ys pl y z)) (ag (aS (VW.vc (dh (bz hu (aa 3) (VP.vr af)) (cH (bz hu (VP.vr (aU (aa 6) (VP.vr af))) (VP.vr af)))))
     (ah (aD (VP.vx (bc (ae (VP.ve au) (ae (VP.ve (aJ (aa 1) (VP.vr (ba (VP.vr af) (VP.vr (aU (VP.vr (a_ (aa 6) (VP.vr af))) (VP.vr af))))))) ai))))))
     aA)
   (ag (aS (VW.vc (dh (bz hu (aa 3) (VP.vr af)) (cH (bz hu (VP.vr (aU (aa 6) (VP.vr af))) (VP.vr af)))))
     (ah (aD (VP.vx (bc (ae (VP.ve au) ai)))))
     aA)
   (ah (aD (VP.vx (bc (ae (VP.ve au) (ae (ak 4) (ae (ak 5) ai))))))))) ?w_cutS))))))))))),fun _=>?_⟩
 case w_cutS =>
  rintro d ρ ⟨⟨wv,rfl⟩,kk⟩
  have fin:=kk
  refine b_ (fun _=>?_) (fun _=>?_)
  · refine ⟨(by show (0:Int) < 3; decide),b_ (fun _=>?_) (fun _=>?_)⟩
    · obtain ⟨x,hx,ex⟩:=LI G.y6 (n / 208 / 3)
      exact ⟨⟨by decide,by decide⟩,(by show (0:Int) < 2; decide),_,ex,j7 (by simp),kk _ _ (hq (.fail x) hx)⟩
    · refine b_ (fun _=>?_) (fun _=>⟨j7 (by simp),kk _ _ (hq (.put y (.nm z)) ⟨hy,hz⟩)⟩)
      exact ⟨(by show (0:Int) < 2; decide),b_ (fun _=>⟨j7 (by simp),kk _ _ (hq .skip trivial)⟩) (fun _=>⟨j7 (by simp),kk _ _ (hq (.put y (.nm z)) ⟨hy,hz⟩)⟩)⟩
  · refine gQ rfl (b_ (fun _=>?_) (fun _=>gQ rfl ⟨j7 (by simp),kk _ _ (hq (.put y (.nm z)) ⟨hy,hz⟩)⟩))
    exact ⟨(by show (0:Int) < 2; decide),b_ (fun _=>⟨j7 (by simp),kk _ _ (hq .skip trivial)⟩) (fun _=>⟨j7 (by simp),kk _ _ (hq (.put y (.nm z)) ⟨hy,hz⟩)⟩)⟩
 have m0:0≤n / 208:=by omega
 have m1:n / 208 < 2147483648:=by omega
 have dv:∀ e:Int,0 < e→0≤n / 208 / e∧n / 208 / e < 2147483648:=fun e he=>⟨Int.ediv_nonneg m0 (by omega),Int.lt_of_le_of_lt (Int.ediv_le_self _ m0) m1⟩
 refine ⟨(by show (0:Int) < 13; decide),⟨by decide,by decide⟩,(by show (0:Int) < 4; decide),_,ey,⟨by decide,by decide⟩,(by show (0:Int) < 4; decide),_,ez,⟨by decide,by decide⟩,?_⟩
 refine b_ (fun _=>?_) (fun _=>?_)
 · exact ⟨rfl,_,ys,rfl,G.y6,m0,m1,fun o ho=>⟨j7 (by simp),hq (.put y o) ⟨hy,ho⟩⟩⟩
 refine b_ (fun _=>?_) (fun _=>?_)
 · obtain ⟨op,YX,YY⟩:=Pj (n / 208)
   exact ⟨j7 (by simp),(by show (0:Int) < 7; decide),_,YY,⟨by decide,by decide⟩,rfl,_,ys,rfl,G.y6,(dv 7 (by decide)).1,(dv 7 (by decide)).2,fun o ho=>⟨⟨by decide,by decide⟩,rfl,_,ys,rfl,G.y6,(dv 420 (by decide)).1,(dv 420 (by decide)).2,fun o2 By=>⟨j7 (by simp),hq (.C3 y o op o2) ⟨hy,ho,YX,By⟩⟩⟩⟩
 refine b_ (fun _=>⟨j7 (by simp),hq (.new y) hy⟩) (fun _=>?_)
 refine b_ (fun _=>?_) (fun _=>?_)
 · exact ⟨rfl,_,ys,rfl,G.y6,G.sm,m0,m1,fun k hk=>⟨j7 (by simp),hq (.get y z k) ⟨hy,hz,hk⟩⟩⟩
 refine b_ (fun _=>?_) (fun _=>?_)
 · exact ⟨rfl,_,ys,rfl,G.y6,G.sm,m0,m1,fun k hk=>⟨⟨by decide,by decide⟩,rfl,_,ys,rfl,G.y6,(dv 90 (by decide)).1,(dv 90 (by decide)).2,fun o ho=>⟨j7 (by simp),hq (.set z k o) ⟨hz,hk,ho⟩⟩⟩⟩
 refine b_ (fun _=>?_) (fun _=>gQ rfl ⟨⟨_,rfl⟩,fun _ _ h=>h⟩)
 refine ⟨km _,u7 pl,rfl,Ae pl,?_⟩
 cases pl with
 | nil=>exact gQ rfl ⟨⟨_,rfl⟩,fun _ _ h=>h⟩
 | cons p pl=>exact Li rfl ⟨rfl,_,y,ys,p :: pl,rfl,G.y6,by simp,G.p3,G.p4,hy,m0,m1,fun fn as hs=>hq _ hs⟩
end
def Ea (q:List T→Rt→Prop) (rs:List Rw) (bG:List Str) (c n mv:Int) (ys:List Str) (pl:Plan):FS:=fun d ρ=>(∃ nv,ρ=[some (.lst (rs.map aH),true),some (.lst (bG.map .str),true),some (.int c,false),some (.lst (ys.map .str),false),some (.lst (pl.map bj),false),some (.int n,false),some (.int mv,false),nv]) ∧
 ∀ ρ,q (lQ [true,true,false,false,false] ρ) (.vw .bu)→d.nx ρ
theorem pO (l:List Str):plainT (.lst (l.map .str))=true:=by simp only [plainT]; exact ck (fun _=>by simp [plainT]) l
theorem vP (l:List Str):dep (.lst (l.map .str))≤100:=by have:=cR (f:=T.str) (n:=0) (fun _=>by simp [dep]) l; simp only [dep]; omega
section
variable {P:Program} {w:World} {K:PySem.W.Frag} {mg:Str→Option Value} {base:Heap}
abbrev PR:List Str:=["_law_rows","_law_stack","_law_cell","_law_words_here","_law_later","_law_number","_law_move","_law_name"]
theorem Eb:aI PR ["_law_rows","_law_stack","_law_cell","_law_words_here","_law_later"] (aj vK):=L2.gI
theorem Ml {f:Addr} {fd:FuncData} (D:Df K mg "_law_lay" vK ["_law_rows","_law_stack","_law_cell","_law_words_here","_law_later"] f fd) (M:Md mg) (c1:b8 P w K mg base "_law_operand" ["_law_number","_law_words_here"] 1 (bW K 2 gz))
  (c2:b8 P w K mg base "_law_simple" ["_law_number","_law_words_here","_law_later"] 3 (bW K 3 zf)) :
  b8 P w K mg base "_law_lay" ["_law_rows","_law_stack","_law_cell","_law_words_here","_law_later"] 4 (qt K [true,true,false,false,false] PQ):=by
 obtain ⟨jw,ie,bK,bL,bM,bN⟩:=c1
 obtain ⟨PU,Nh,Ec,Ed,Ee,Ef⟩:=c2
 refine D.jo (TH D.F Eb rfl fun bD A outer s H E as Ox hr ts q hl hG=>?_)
 have nd:=Eb.nd
 have hu:=bp.fF hr
 obtain ⟨rs,bG,c,ys,pl,rfl,G,hr1,Ma,hq⟩:=hG
 have n0:0≤c / 8 * 48271 % 2147483647:=lp _ (by decide)
 have n1:c / 8 * 48271 % 2147483647 < 2147483647:=mX _ (by decide)
 have n2:c / 8 * 48271 % 2147483647 < 2147483648:=by omega
 have d3:0≤c / 8 * 48271 % 2147483647 / 3∧c / 8 * 48271 % 2147483647 / 3 < 2147483648:=⟨by omega,by omega⟩
 have AW:(rs.map aH).length < sizeLine:=by rw [bZ]; exact fits (by omega)
 have PV:(bG.map T.str).length < sizeLine:=by rw [bZ]; exact fits (by omega)
 have one:∀ {r:Rw} {cZ:List Str},lZ ys pl bG [r] cZ→q [.lst (rs.map aH ++ [aH r]),.lst (cZ.map .str)] (.vw .bu):=fun {r cZ} h=>by
  have:=hq [r] cZ h
  rw [ud] at this
  exact this
 have push:∀ x:Str,(bG ++ [x]).map T.str=bG.map T.str ++ [T.str x]:=fun x=>by rw [ud]; rfl
 refine ⟨_,(ag (aV (i:=5) nd rfl (Or.inl rfl) (VP.vx (aU (VP.vr (fP (VP.vr (a_ (aa 2) (VP.vr af))) (VP.vr af))) (VP.vr af))) (CH (by decide)))
   (ag (aV (i:=6) nd rfl (Or.inl rfl) (VP.vx (aU (aa 2) (VP.vr af))) (CH (by decide)))
   (lr.weak (u:=(Ea q rs bG c (c / 8 * 48271 % 2147483647) (c % 8) ys pl)) (ah (aS (VW.vc (dh (bz hu (aa 6) (VP.vr af)) (cH (gj (VP.vr (aB ay az (by rfl) M.len gE (ao (aa 1) aw))) (VP.vr af)))))
     (ag (bf (dY 0 ui uj bh bb (ae (VP.ve (bc (ae (VP.ve au) (ae (VP.ve (aL bN (hr.mono (by decide)) (by rfl) bK bL bM (ae (ak 5) (ae (ak 3) ai)))) ai)))) ai)))
     (ah (bf (dY 1 ui uj bh bb (ae (VP.ve au) ai)))))
     (lr.weak (u:=(Ea q rs bG c (c / 8 * 48271 % 2147483647) (c % 8) ys pl)) (ah (aS (VW.vc (dh (bz hu (aa 6) (VP.vr af)) (cH (gj (VP.vr (aB ay az (by rfl) M.len gE (ao (aa 1) aw))) (VP.vr af)))))
       (ag (bf (dY 1 ui uj bh bb (ae (VP.ve au) ai)))
       (ah (aS (bz hu (VP.vr (aU (aa 5) (VP.vr af))) (VP.vr af))
         (ah (bf (dY 0 ui uj bh bb (ae (VP.ve (bc (ae (VP.ve au) (ae (VP.ve (aL bN (hr.mono (by decide)) (by rfl) bK bL bM (ae (VP.ve (a_ (aa 5) (VP.vr af))) (ae (ak 3) ai)))) ai)))) ai))))
         (ag (aV (i:=7) nd rfl (Or.inl rfl) (VP.vx (aJ (aa 3) (VP.vr (aU (VP.vr (a_ (aa 5) (VP.vr af))) (VP.vr af))))) (CH (by decide)))
         (ag (bf (dY 0 ui uj bh bb (ae (VP.ve (bc (ae (VP.ve au) (ae (ak 7) ai)))) ai)))
         (ah (bf (dY 0 ui uj bh bb (ae (VP.ve (bc (ae (VP.ve au) (ae (ak 7) (ae (ak 7) (ae (VP.ve au) (ae (VP.ve af) ai))))))) ai)))))))))
       (lr.weak (u:=(Ea q rs bG c (c / 8 * 48271 % 2147483647) (c % 8) ys pl)) (ah (aS (VW.vc (dh (bz hu (aa 6) (VP.vr af)) (dh (oq hu (aa 1) (VP.vr (bO ai))) (cH (bz hu (VP.vr (aJ (aa 1) (VP.vr (gN (VP.vr af))))) (VP.vr au))))))
         (ag (bf (dY 0 ui uj bh bb (ae (VP.ve (bc (ae (VP.ve au) ai))) ai)))
         (ah (wL 1 (VP.ve au) (VP.vr (gN (VP.vr af))))))
         (lr.weak (u:=(Ea q rs bG c (c / 8 * 48271 % 2147483647) (c % 8) ys pl)) (ah (aS (VW.vc (dh (bz hu (aa 6) (VP.vr af)) (cH (oq hu (aa 1) (VP.vr (bO ai))))))
           (ag (bf (dY 0 ui uj bh bb (ae (VP.ve (bc (ae (VP.ve au) ai))) ai)))
           (ah (bf (Cs 1 PySem.F.slot_list_pop PySem.F.type_list_pop B5 yM))))
           (lr.weak (u:=(Ea q rs bG c (c / 8 * 48271 % 2147483647) (c % 8) ys pl)) (ah (bf (dY 0 ui uj bh bb (ae (VP.ve (aL Ef (hr.mono (by decide)) (by rfl) Ec Ed Ee (ae (ak 5) (ae (ak 3) (ae (ak 4) ai))))) ai)))) ?w5))) ?w4))) ?w3))) ?w2))) ?w1))),?_⟩
 case w5 =>
  rintro d ρ ⟨⟨nv,rfl⟩,kk⟩
  exact ⟨rfl,_,ys,pl,rfl,G,n0,n2,fun r hs=>⟨AW,kk _ (one (.inr (.inr (.inr (.inr (.inr ⟨r,hs,rfl,rfl⟩))))))⟩⟩
 case w4 =>
  rintro d ρ ⟨⟨nv,rfl⟩,kk⟩
  refine b_ (fun _=>?_) (fun _=>gQ rfl ⟨⟨nv,rfl⟩,kk⟩)
  refine ⟨km _,pO bG,rfl,vP bG,?_⟩
  rcases QW bG with e | ⟨s0,x,e⟩
  · subst e; exact gQ rfl ⟨⟨nv,rfl⟩,kk⟩
  · have en:eqT (.lst (bG.map .str)) (.lst [])=false:=by rw [e]; cases s0 <;> simp [eqT,eR]
    refine Li (by show (!eqT (.lst (bG.map .str)) (.lst []))=true; rw [en]; rfl) ⟨j7 (by simp),AW,rfl,T.str x,?_,?_⟩
    · rw [e]; simp
    · have e2:(bG.map T.str).dropLast=s0.map T.str:=by rw [e]; simp
      refine kk _ ?_
      show q [.lst (rs.map aH ++ [aH .fin]),.lst ((bG.map T.str).dropLast)] _
      rw [e2]
      exact one (.inr (.inr (.inr (.inr (.inl ⟨s0,x,by rw [e,RX],rfl,rfl⟩)))))
 case w3 =>
  rintro d ρ ⟨⟨nv,rfl⟩,kk⟩
  refine b_ (fun _=>?_) (fun _=>gQ rfl ⟨⟨nv,rfl⟩,kk⟩)
  refine ⟨km _,pO bG,rfl,vP bG,?_⟩
  rcases QW bG with e | ⟨s0,x,e⟩
  · subst e; exact gQ rfl (gQ rfl ⟨⟨nv,rfl⟩,kk⟩)
  · have en:eqT (.lst (bG.map .str)) (.lst [])=false:=by rw [e]; cases s0 <;> simp [eqT,eR]
    have ex:jS (bG.map T.str) (-1)=some (T.str x):=by rw [e,RX,ud]; exact ux _ _
    refine Li (by show (!eqT (.lst (bG.map .str)) (.lst []))=true; rw [en]; rfl) ⟨_,ex,b_ (fun hx=>?_) (fun _=>⟨⟨nv,rfl⟩,kk⟩)⟩
    have M9:x="if":=hx
    subst M9
    have Gz:(bG.map T.str).length=s0.length+1:=by rw [e]; simp
    refine ⟨j7 (by simp),AW,s0.length,?_,kk _ ?_⟩
    · unfold yC
      rw [Gz,if_neg (by decide),if_pos (by omega)]
      congr 1
      omega
    · have e2:(bG.map T.str).set s0.length (T.str "else")=(s0 ++ ([("else" : Str)]:List Str)).map T.str:=by rw [e]; simp
      show q [.lst (rs.map aH ++ [aH .RD]),.lst ((bG.map T.str).set s0.length (T.str "else"))] _
      rw [e2]
      exact one (.inr (.inr (.inr (.inl ⟨s0,by rw [e]; simp,rfl,rfl⟩))))
 case w2 =>
  rintro d ρ ⟨⟨nv,rfl⟩,kk⟩
  refine b_ (fun _=>?_) (fun _=>gQ rfl ⟨⟨nv,rfl⟩,kk⟩)
  refine b_ (fun _=>?_) (fun _=>⟨⟨nv,rfl⟩,kk⟩)
  refine ⟨PV,(by show (0:Int) < 3; decide),b_ (fun _=>?_) (fun _=>?_)⟩
  · refine ⟨⟨by decide,by decide⟩,rfl,_,ys,rfl,G.y6,d3.1,d3.2,fun o ho=>⟨j7 (by simp),AW,kk _ ?_⟩⟩
    have:=one (r:=.Ac o) (.inr (.inl ⟨o,ho,rfl,rfl⟩))
    rw [push] at this
    exact this
  · obtain ⟨y,hy,ey⟩:=kM G.y6 (n:=c / 8 * 48271 % 2147483647 / 3) (m:=4) (by decide) (by decide)
    refine ⟨⟨by decide,by decide⟩,(by show (0:Int) < 4; decide),_,ey,j7 (by simp),AW,j7 (by simp),?_,kk _ ?_⟩
    · rw [qd,bZ]; exact fits (by simp; omega)
    · have:=hq [.Ac (.nm y),.C3 y (.nm y) "minus" (.nu 1)] _ (.inr (.inr (.inl ⟨y,hy,rfl,rfl⟩)))
      rw [push,ud] at this
      show q [.lst ((rs.map aH ++ [aH (.Ac (.nm y))]) ++ [aH (.C3 y (.nm y) "minus" (.nu 1))]),_] _
      rw [Jx]
      exact this
 case w1 =>
  rintro d ρ ⟨⟨nv,rfl⟩,kk⟩
  refine b_ (fun _=>?_) (fun _=>gQ rfl ⟨⟨nv,rfl⟩,kk⟩)
  refine b_ (fun _=>?_) (fun _=>⟨⟨nv,rfl⟩,kk⟩)
  refine ⟨rfl,_,ys,rfl,G.y6,n0,n2,fun o ho=>⟨j7 (by simp),AW,PV,kk _ ?_⟩⟩
  have:=one (r:=.LH o) (.inl ⟨o,ho,rfl,rfl⟩)
  rw [push] at this
  exact this
 exact ⟨⟨by decide,by decide⟩,.inr ⟨by decide,by decide⟩,(by show (0:Int) < 2147483647; decide),(by show (0:Int) < 8; decide),⟨none,rfl⟩,fun _ h=>h⟩
end
def Jm (ts:List T) (q:Rt→Prop):Prop:=∃ (c:Int) (ys:List Str),ts=[.int c,.lst (ys.map .str)]∧ys.length=6∧∀ pl,sU ys pl→1≤pl.length→pl.length≤3→q (.fr (.lst (pl.map bj)))
section
variable {P:Program} {w:World} {K:PySem.W.Frag} {mg:Str→Option Value} {base:Heap}
abbrev Eg:List Str:=["_law_cell","_law_words_here","_law_number","_law_plan_here","_law_k","_law_parameters"]
theorem zh:aI Eg ["_law_cell","_law_words_here"] (aj pK):=L2.gI
theorem xR:(Eg ++ (["_law_j"]:List Str)).Nodup:=by decide +kernel
theorem Hz {f:Addr} {fd:FuncData} (D:Df K mg "_law_plan" pK ["_law_cell","_law_words_here"] f fd) (M:Md mg):b8 P w K mg base "_law_plan" ["_law_cell","_law_words_here"] 1 (bW K 2 Jm):=by
 refine D.jo (j5 D.F zh rfl fun bD A outer s H E Ox hr ts q hG=>?_)
 have nd:=zh.nd
 have np:∀ {i:Nat},aX ⟨H,[],Ox⟩ i:=kG
 refine ⟨_,(ag (aV (i:=2) nd rfl (Or.inr rfl) (VP.vx (aU (aa 0) (VP.vr (jY (VP.vr af) (VP.vr af))))) np)
   (ag (fQ (i:=3) nd rfl (Or.inl rfl) (VP.vx (bO ai)) np)
   (ag (dm Bt rfl (cL (by rfl) M.range (VP.vr (ba (VP.vr af) (VP.vr (aU (aa 2) (VP.vr af)))))) (aQ (i:=4) nd rfl (Or.inl rfl) np)
     (ag (aV (i:=2) nd rfl (Or.inr rfl) (VP.vx (aU (VP.vr (ba (VP.vr (ba (VP.vr (fP (aa 2) (aa 2))) (VP.vr (fP (VP.vr af) (aa 2))))) (aa 4))) (VP.vr af))) np)
     (ag (nM (i:=5) (ts:=["_law_j"]) nd rfl (Or.inl rfl) rfl (by rfl) (cL (by rfl) M.range (VP.vr (aU (aa 2) (VP.vr af)))) (fun _ _ _ _ _ _=>(aQ (i:=6) xR rfl (Or.inl rfl) np)) (fun _ _ _ _ _ _=>kC) (fun _ _ _ _ _ _=>(VP.ve (aJ (aa 1) (VP.vr (aU (VP.vr (ba (VP.vr (a_ (aa 2) (VP.vr af))) (aa 6))) (VP.vr af)))))) np)
     (ah (bf (dY 3 ui uj bh bb (ae (VP.ve (bc (ae (VP.ve (aJ (aa 1) (aa 4))) (ae (VP.ve (eE fO iS (by rfl) M.tuple kH (ao (aa 5) aw))) ai)))) ai)))))))
   (ah (aD (jh 3 np)))))),fun _=>?_⟩
 obtain ⟨c,ys,rfl,xQ,hq⟩:=hG
 refine ⟨⟨by decide,by decide,by decide⟩,(by show (0:Int) < 10 ^ (9:Int).toNat; decide),km _,(by show (0:Int) < 3; decide),?_⟩
 have m0:0≤c % (10:Int) ^ (9:Int).toNat:=lp _ (by decide)
 have m1:c % (10:Int) ^ (9:Int).toNat < 1000000000:=by rw [Pg]; exact mX _ (by decide)
 have t0:0≤c % (10:Int) ^ (9:Int).toNat % 3:=lp _ (by decide)
 have t1:c % (10:Int) ^ (9:Int).toNat % 3 < 3:=mX _ (by decide)
 refine ⟨(by show -(2 ^ 62:Int)≤1+c % 10 ^ (9:Int).toNat % 3; omega),(by show 1+c % 10 ^ (9:Int).toNat % 3 < (2 ^ 62:Int); omega),?_⟩
 refine dO (fun k ρ=>∃ n kv pv ts pl,ρ=[some (.int c,false),some (.lst (ys.map .str),false),some (.int n,false),some (.lst ts,true),kv,pv]∧ts=pl.map bj∧0≤n∧n < 2147483648∧pl.length=k∧sU ys pl)
  ⟨_,none,none,_,[],rfl,rfl,m0,by omega,rfl,fun k f ps e=>by simp at e⟩ ?_ ?_
 · rintro k ρ hk ⟨n,kv,pv,_,pl,rfl,rfl,p0,p1,rfl,bC⟩
   have YZ:pl.length < 3:=by omega
   refine ⟨.inl ⟨by omega,by omega⟩,.inl ⟨by decide,by decide⟩,(by show (0:Int) < 2147483647; decide),rfl,(by show (0:Int) < 3; decide),?_⟩
   have g0:0≤(n * n+48271 * n+(0+(pl.length:Int))) % 2147483647:=lp _ (by decide)
   have g1:(n * n+48271 * n+(0+(pl.length:Int))) % 2147483647 < 2147483647:=mX _ (by decide)
   have u0:0≤(n * n+48271 * n+(0+(pl.length:Int))) % 2147483647 % 3:=lp _ (by decide)
   have u1:(n * n+48271 * n+(0+(pl.length:Int))) % 2147483647 % 3 < 3:=mX _ (by decide)
   refine ⟨(by show -(2 ^ 62:Int)≤(n * n+48271 * n+(0+(pl.length:Int))) % 2147483647 % 3; omega),(by show (n * n+48271 * n+(0+(pl.length:Int))) % 2147483647 % 3 < (2 ^ 62:Int); omega),?_⟩
   refine ⟨by rw [gP]; exact small (by show ((n * n+48271 * n+(0+(pl.length:Int))) % 2147483647 % 3).toNat≤1000; omega),?_⟩
   refine jj (fun _=>true) (fun t=>match t with | .int j=>.str (ys.getD (((n * n+48271 * n+(0+(pl.length:Int))) % 2147483647 / 3+j) % 4).toNat Str.empty) | _=>.bu) ?_ ?_
   · intro t ht _ r hr
     obtain ⟨i,hi,e⟩:=List.mem_iff_getElem.mp ht
     obtain ⟨_,rfl⟩:=oN (by rw [kg hi,e]:(rangeT _ _)[i]?=some t)
     rw [if_pos rfl] at hr
     exact ⟨⟨by decide,by decide⟩,(by show (0:Int) < 4; decide),_,C4 xQ _,hr⟩
   · generalize JJ:(n * n+48271 * n+(0+(pl.length:Int))) % 2147483647=n' at g0 g1 u0 u1
     have WH:pl.length < ys.length:=by omega
     have ek:jS (ys.map T.str) (0+(pl.length:Int))=some (T.str ys[pl.length]):=by
      rw [Ig]
      refine aq ?_
      rw [ly,kg WH]
      rfl
     have Y0:(((rangeT 0 (n' % 3).toNat).filter fun _=>true).map fun t=>match t with | .int j=>T.str (ys.getD ((n' / 3+j) % 4).toNat Str.empty) | _=>.bu)=((List.range (n' % 3).toNat).map fun j=>ys.getD ((n' / 3+((j:Nat):Int)) % 4).toNat Str.empty).map T.str:=by
      unfold rangeT
      rw [Q1.mpr (fun _ _=>rfl),List.map_map,List.map_map]
      apply List.map_congr_left
      intro j _
      show T.str (ys.getD ((n' / 3+(0+(j:Int))) % 4).toNat Str.empty)=T.str (ys.getD ((n' / 3+(j:Int)) % 4).toNat Str.empty)
      rw [Ig]
     rw [Y0]
     refine ⟨_,ek,j7 (by simp),by rw [bZ]; exact fits (by omega),n',_,_,_,pl ++ [(ys[pl.length],(List.range (n' % 3).toNat).map fun j=>ys.getD ((n' / 3+((j:Nat):Int)) % 4).toNat Str.empty)],rfl,?_,g0,by omega,by simp,?_⟩
     · rw [ud]; rfl
     · intro k' f' Uw e
       by_cases fz:k' < pl.length
       · rw [uh fz] at e
         exact bC k' f' Uw e
       · by_cases he:k'=pl.length
         · subst he
           rw [BH (dX _),Nat.sub_self] at e
           simp only [QQ,Option.some.injEq,Prod.mk.injEq] at e
           obtain ⟨e1,e2⟩:=e
           subst e1 e2
           exact ⟨kg WH,n' / 3,(n' % 3).toNat,by omega,rfl⟩
         · rw [List.getElem?_eq_none (by simp; omega)] at e
           cases e
 · rintro ρ ⟨n,kv,pv,_,pl,rfl,rfl,p0,p1,hlen,bC⟩
   exact hq pl bC (by omega) (by omega)
end
def vQ (ts:List T) (q:Rt→Prop):Prop:=∃ (ns:List Int) (ys:List Str) (pl:Plan),ts=[.lst (ns.map .int),.lst (ys.map .str),.lst (pl.map bj)]∧ns.length≤63∧Given ys pl∧1≤pl.length ∧
 ∀ rs,Pre ys pl pl.length rs→rs.length≤60→q (.fr (.lst (rs.map aH)))
theorem zi {α:Type} (f:α→T) (ns:List α) (lo hi:Option Int):∃ ms:List α,dj (ns.map f) lo hi=ms.map f∧ms.length≤ns.length:=by
 unfold dj
 rw [bZ,← List.map_drop,← List.map_take]
 refine ⟨_,rfl,?_⟩
 rw [MX,Nv]
 omega
theorem vR {α:Type} (f:α→T) (ts:List α) (k:Nat) (h:k≤ts.length):dj (ts.map f) (some (k:Int)) none=(ts.drop k).map f:=by
 unfold dj
 rw [bZ,HT.ky,HT.iK,Nat.min_eq_left h,← List.map_drop,← List.map_take,List.take_of_length_le (by rw [Nv]; omega)]
theorem ints_map:∀ ms:List Int,intsOf (ms.map T.int)=some ms
 | []=>rfl
 | m :: ms=>by simp only [iF,intsOf,ints_map ms]; rfl
section
variable {P:Program} {w:World} {K:PySem.W.Frag} {mg:Str→Option Value} {base:Heap}
abbrev AX:List Str:=["_law_cells","_law_words_here","_law_plan_here","_law_rows","_law_k","_law_stack","_law_start","_law_stop","_law_share","_law_cell","_law_word"]
theorem pP:aI AX ["_law_cells","_law_words_here","_law_plan_here"] (aj gy):=L2.gI
theorem xS {f:Addr} {fd:FuncData} (D:Df K mg "_law_program" gy ["_law_cells","_law_words_here","_law_plan_here"] f fd) (M:Md mg) (c1:b8 P w K mg base "_law_operand" ["_law_number","_law_words_here"] 1 (bW K 2 gz))
  (c2:b8 P w K mg base "_law_lay" ["_law_rows","_law_stack","_law_cell","_law_words_here","_law_later"] 4 (qt K [true,true,false,false,false] PQ)) :
  b8 P w K mg base "_law_program" ["_law_cells","_law_words_here","_law_plan_here"] 5 (bW K 3 vQ):=by
 obtain ⟨jw,ie,bK,bL,bM,bN⟩:=c1
 obtain ⟨WI,UW,PX,PY,PZ,P4⟩:=c2
 refine D.jo (j5 D.F pP rfl fun bD A outer s H E Ox hr ts q hG=>?_)
 have nd:=pP.nd
 have hu:=bp.fF hr
 have np:∀ {i:Nat},aX ⟨H,[],Ox⟩ i:=kG
 have Y1:∀ {is:List Nat},∀ i∈is,aX ⟨H,[],Ox⟩ i:=fun i _=>kG
 obtain ⟨ns,ys,pl,rfl,SU,G,XZ,hq⟩:=hG
 refine ⟨_,(ag (fQ (i:=3) nd rfl (Or.inl rfl) (VP.vx (bO ai)) np)
   (ag (dm Bt rfl (cL (by rfl) M.range (VP.vr (aB ay az (by rfl) M.len gE (ao (aa 2) aw)))) (aQ (i:=4) nd rfl (Or.inl rfl) np)
     (ag (bf (dY 3 ui uj bh bb (ae (VP.ve (bc (ae (VP.ve au) (ae (VP.ve (aJ (VP.vr (aJ (aa 2) (aa 4))) (VP.vr af))) (ae (VP.ve (aJ (VP.vr (aJ (aa 2) (aa 4))) (VP.vr af))) ai))))) ai)))
     (ag (fQ (i:=5) nd rfl (Or.inl rfl) (VP.vx (bO ai)) np)
     (ag (aV (i:=6) nd rfl (Or.inl rfl) (VP.vx (a_ (VP.vr (fP (aa 4) (VP.vr (aB ay az (by rfl) M.len gE (ao (aa 0) aw))))) (VP.vr (aB ay az (by rfl) M.len gE (ao (aa 2) aw))))) np)
     (ag (aV (i:=7) nd rfl (Or.inl rfl) (VP.vx (a_ (VP.vr (fP (VP.vr (ba (aa 4) (VP.vr af))) (VP.vr (aB ay az (by rfl) M.len gE (ao (aa 0) aw))))) (VP.vr (aB ay az (by rfl) M.len gE (ao (aa 2) aw))))) np)
     (ag (aV (i:=8) nd rfl (Or.inl rfl) (VP.vx (bF (aa 0) (bH (aa 6)) (bH (aa 7)))) np)
     (ag (dm Bt rfl (iT (ak 8)) (aQ (i:=9) nd rfl (Or.inl rfl) np)
       (ah (aS (gj (VP.vr (ba (VP.vr (aB ay az (by rfl) M.len gE (ao (aa 3) aw))) (VP.vr (aB ay az (by rfl) M.len gE (ao (aa 5) aw))))) (VP.vr (om (VP.vr af) (VP.vr (fP (VP.vr af) (VP.vr (om (VP.vr (om (VP.vr (aB ay az (by rfl) M.len gE (ao (aa 2) aw))) (VP.vr af))) (aa 4))))))))
         (ah (bf (oB P4 (hr.mono (by decide)) (by rfl) PX PY PZ (nN 3 (nN 5 (iU (ak 9) (iU (ak 1) (iU (VP.ve (bF (aa 2) (bH (VP.vr (ba (aa 4) (VP.vr af)))) cj)) sD))))))))
         aA)))
     (Gb [5] (ag (dm Bt rfl (iT (ak 5)) (aQ (i:=10) nd rfl (Or.inl rfl) np)
       (ah (bf (dY 3 ui uj bh bb (ae (VP.ve (bc (ae (VP.ve au) ai))) ai)))))
     (ag (bf (dY 3 ui uj bh bb (ae (VP.ve (bc (ae (VP.ve au) (ae (VP.ve (aL bN (hr.mono (by decide)) (by rfl) bK bL bM (ae (VP.ve (aU (VP.vr (aB (qm rfl) zV (by rfl) M.sum OU (ao (aa 8) aw))) (VP.vr (jY (VP.vr af) (VP.vr af))))) (ae (ak 1) ai)))) ai)))) ai)))
     (ah (aS (VW.vc (dh (bz hu (VP.vr (aU (aa 4) (VP.vr af))) (VP.vr af)) (cH (bz hu (VP.vr (aU (VP.vr (aB ay az (by rfl) M.len gE (ao (aa 8) aw))) (VP.vr af))) (VP.vr af)))))
       (ah (bf (dY 3 ui uj bh bb (ae (VP.ve (bc (ae (VP.ve au) ai))) ai))))
       aA)))) Y1))))))))
   (ah (aD (jh 3 np))))),fun _=>?_⟩
 have YU:=G.p3
 have eT:((pl.map bj).length)=pl.length:=bZ _
 have eN:((ns.map T.int).length)=ns.length:=bZ _
 refine ⟨km _,by omega,by omega,?_⟩
 refine dO (fun k ρ=>∃ kv a5 a6 a7 a8 a9 UX rt rs,ρ=[some (.lst (ns.map .int),false),some (.lst (ys.map .str),false),some (.lst (pl.map bj),false),some (.lst rt,true),kv,a5,a6,a7,a8,a9,UX]∧rt=rs.map aH∧Pre ys pl k rs∧rs.length+3 * (pl.length - k)≤60)
  ⟨none,none,none,none,none,none,none,_,[],rfl,rfl,.zero,by simp; omega⟩ ?_ ?_
 · rintro k ρ hk ⟨kv,a5,a6,a7,a8,a9,UX,_,rs,rfl,rfl,jT,hlen⟩
   rw [eT,Ia] at hk
   obtain ⟨p,hp⟩:∃ p:Str×List Str,p=pl[k]:=⟨_,rfl⟩
   obtain ⟨fn,sr⟩:=p
   have WJ:pl[k]?=some (fn,sr):=by rw [kg hk,hp]
   have et:jS (pl.map bj) (0+(k:Int))=some (bj (fn,sr)):=by
    rw [Ig]
    refine aq ?_
    rw [ly,WJ]
    rfl
   have YZ:k < 3:=by omega
   have UY:(rs.map aH).length < sizeLine:=by rw [bZ]; exact fits (by omega)
   refine ⟨_,et,_,aq (j:=0) rfl,_,et,_,aq (j:=1) rfl,j7 (by simp),UY,km _,.inl ⟨by show -(2 ^ 64:Int) < 0+(k:Int); omega,by show 0+(k:Int) < (2 ^ 64:Int); omega⟩,⟨by show (0:Int) < ((pl.map bj).length:Int); omega,by show ((pl.map bj).length:Int) < 1073741824; omega⟩,
    .inl ⟨by show -(2 ^ 64:Int) < 0+(k:Int)+1; omega,by show 0+(k:Int)+1 < (2 ^ 64:Int); omega⟩,⟨by show (0:Int) < ((pl.map bj).length:Int); omega,by show ((pl.map bj).length:Int) < 1073741824; omega⟩,?_⟩
   obtain ⟨ms,UZ,Ul⟩:=zi T.int ns (some ((0+(k:Int)) * ((ns.map T.int).length:Int) / ((pl.map bj).length:Int))) (some ((0+(k:Int)+1) * ((ns.map T.int).length:Int) / ((pl.map bj).length:Int)))
   show uM (dj (ns.map T.int) (some ((0+(k:Int)) * ((ns.map T.int).length:Int) / ((pl.map bj).length:Int))) (some ((0+(k:Int)+1) * ((ns.map T.int).length:Int) / ((pl.map bj).length:Int)))) _ _ _ _
   rw [UZ]
   refine uW (fun i ρ=>∃ b6 b7 b9 Jn rt st body bG,ρ=[some (.lst (ns.map .int),false),some (.lst (ys.map .str),false),some (.lst (pl.map bj),false),some (.lst rt,true),some (.int (0+(k:Int)),false),some (.lst st,true),b6,b7,some (.lst (ms.map .int),false),b9,Jn]∧rt=(rs ++ [Rw.df fn sr] ++ body).map aH∧st=bG.map .str∧Body ys (pl.drop (k+1)) bG body∧rs.length+1+body.length+bG.length+3 * (pl.length - 1 - k)≤58)
    ⟨_,_,_,_,_,_,[],[],rfl,by simp; rfl,rfl,.nil,by simp; omega⟩ ?_ ?_
   · rintro i z ρ hi ⟨b6,b7,b9,Jn,_,_,body,bG,rfl,rfl,rfl,hB,hb⟩
     refine ⟨.inl ⟨by decide,by decide⟩,b_ (fun h=>?_) (fun _=>⟨b6,b7,_,Jn,_,_,body,bG,rfl,rfl,rfl,hB,hb⟩)⟩
     have hg:(((rs ++ [Rw.df fn sr] ++ body).map aH).length:Int)+((bG.map T.str).length:Int) < 56 - 3 * (((pl.map bj).length:Int) - 1 - (0+(k:Int))):=h
     have U0:dj (pl.map bj) (some (0+(k:Int)+1)) none=(pl.drop (k+1)).map bj:=by
      have:(0+(k:Int)+1)=((k+1:Nat):Int):=by omega
      rw [this]
      exact vR bj pl (k+1) hk
     have Eh:(rs ++ [Rw.df fn sr] ++ body).length=rs.length+1+body.length:=by simp only [qd,QU]
     rw [bZ,bZ,eT,Eh] at hg
     refine ⟨rs ++ [Rw.df fn sr] ++ body,bG,z,ys,pl.drop (k+1),?_,⟨G.y6,G.sm,by rw [Nv]; omega,fun p hp=>G.p4 p (QX hp)⟩,by rw [Eh]; omega,by omega,fun nw cZ P5=>?_⟩
     · rw [← U0]; rfl
     · have hlr:=GK P5
       refine ⟨b6,b7,_,Jn,_,_,body ++ nw,cZ,rfl,?_,rfl,.step hB P5,by rw [qd]; omega⟩
       rw [Jx]
   · rintro ρ ⟨b6,b7,b9,Jn,_,_,body,bG,rfl,rfl,rfl,hB,hb⟩
     have Eh:(rs ++ [Rw.df fn sr] ++ body).length=rs.length+1+body.length:=by simp only [qd,QU]
     refine uW (f:=T.str) (xs:=bG) (fun i ρ=>∃ Jn rt,ρ=[some (.lst (ns.map .int),false),some (.lst (ys.map .str),false),some (.lst (pl.map bj),false),some (.lst rt,true),some (.int (0+(k:Int)),false),some (.lst (bG.map .str),false),b6,b7,some (.lst (ms.map .int),false),b9,Jn]∧rt=(rs ++ [Rw.df fn sr] ++ body ++ List.replicate i Rw.fin).map aH)
      ⟨Jn,_,rfl,by simp⟩ ?_ ?_
     · rintro i x ρ hi ⟨Y2,_,rfl,rfl⟩
       have BD:i < bG.length:=(fH.mp hi).1
       refine ⟨j7 (by simp),by rw [bZ,qd,Eh,E_]; exact fits (by omega),_,_,rfl,?_⟩
       rw [List.replicate_succ',← Jx,ud (l₂:=[Rw.fin])]
       rfl
     · rintro ρ ⟨Y2,_,rfl,rfl⟩
       have P6:(rs ++ [Rw.df fn sr] ++ body ++ List.replicate bG.length Rw.fin).length=rs.length+1+body.length+bG.length:=by rw [qd,Eh,E_]
       have v0:0≤ms.sum % 10 ^ (6:Int).toNat:=by rw [Ph]; exact lp _ (by decide)
       have v1:ms.sum % 10 ^ (6:Int).toNat < 2147483648:=by rw [Ph]; have:=mX ms.sum (show (0:Int) < 1000000 by decide); omega
       refine ⟨ms,ints_map ms,⟨by decide,by decide,by decide⟩,(by show (0:Int) < 10 ^ (6:Int).toNat; decide),rfl,_,ys,rfl,G.y6,v0,v1,fun o ho=>⟨j7 (by simp),by rw [bZ,P6]; exact fits (by omega),(by show (0:Int) < 2; decide),?_⟩⟩
       have fin:∀ sk:List Rw,(sk=[]∨sk=[Rw.skip])→Pre ys pl (k+1) (rs ++ (Rw.df fn sr :: (body ++ (List.replicate bG.length Rw.fin ++ (Rw.give o :: sk)))))∧(rs ++ (Rw.df fn sr :: (body ++ (List.replicate bG.length Rw.fin ++ (Rw.give o :: sk))))).length+3 * (pl.length - (k+1))≤60:=fun sk WK=>by
        refine ⟨.succ jT WJ hB ho WK,?_⟩
        have:sk.length≤1:=by rcases WK with rfl | rfl <;> simp
        simp only [qd,Jz,E_]
        omega
       have e0:(rs ++ [Rw.df fn sr] ++ body ++ List.replicate bG.length Rw.fin).map aH ++ [aH (Rw.give o)]=(rs ++ (Rw.df fn sr :: (body ++ (List.replicate bG.length Rw.fin ++ (Rw.give o :: []))))).map aH:=by
        simp [Jx]
       have e1:(rs ++ [Rw.df fn sr] ++ body ++ List.replicate bG.length Rw.fin).map aH ++ [aH (Rw.give o)] ++ [aH Rw.skip]=(rs ++ (Rw.df fn sr :: (body ++ (List.replicate bG.length Rw.fin ++ (Rw.give o :: [Rw.skip]))))).map aH:=by
        simp [Jx]
       refine b_ (fun _=>?_) (fun _=>gQ rfl ⟨_,_,_,_,_,_,_,_,_,rfl,e0,fin [] (.inl rfl)⟩)
       refine ⟨(by show (0:Int) < 2; decide),b_ (fun _=>?_) (fun _=>⟨_,_,_,_,_,_,_,_,_,rfl,e0,fin [] (.inl rfl)⟩)⟩
       refine ⟨j7 (by simp),?_,⟨_,_,_,_,_,_,_,_,_,rfl,e1,fin [.skip] (.inr rfl)⟩⟩
       rw [qd,bZ,P6]
       exact fits (by simp; omega)
 · rintro ρ ⟨kv,a5,a6,a7,a8,a9,UX,_,rs,rfl,rfl,jT,hlen⟩
   rw [eT,Ia] at jT
   exact hq rs jT (by omega)
end
end d7
namespace Ei
open PySem L2 VT EX
def top (i:Nat):Stmt:=PySem.Challenge.pw_slicewise_k08_calls_refused.main.body.getD i (.Pass ⟨0,0,0,0⟩)
abbrev gA:Stmt:=inClass (top 8) 0
abbrev jd:Stmt:=inClass (top 9) 0
structure DX (K:PySem.W.Frag) (mg:Str→Option Value) (x qual:Str) (st:Stmt) (S C f:Addr) (fd:FuncData):Prop where
 F:BC K "__init__" qual st f fd
 m:mg x=some (.ref C)
 kp:PySem.W.keepIn K (.ref C)=true
 b:Binds K fd ["self","place"] []
 xc:XC K C [S]
 xf:XF K C
 hi:PySem.W.findIn K (.ref C) "__init__" = some (some (.ref f))
 ht:PySem.W.typeIn K (.ref f)=some (.type "function")
theorem xT:aI ["self","place"] ["self","place"] (aj gA):=L2.gI
theorem AY:aI ["self","place"] ["self","place"] (aj jd):=L2.gI
section
variable {P:Program} {w:World} {K:PySem.W.Frag} {mg:Str→Option Value} {base:Heap} {S C f:Addr} {fd:FuncData}
theorem xU (D:DX K mg "NoBlock" "NoBlock.__init__" gA S C f fd) (xs:XS K S) (mS:mg "SliceError" = some (.ref S)):XP P w K mg base "NoBlock" C 1:=by
 refine ⟨D.m,D.kp,⟨_,D.xc⟩,f,fd,D.hi,D.ht,D.b,D.F.ok xT (fun vs H Q E h=>?_) fun bD A outer s H vs Q E hr h=>?_⟩
 · obtain ⟨e,i,rfl,_⟩:=h; rfl
 · obtain ⟨e,i,rfl,h0,h1,he,hq⟩:=h
   refine ⟨_,nZ (nJ (vE xs (by rfl) mS D.xc (bw (pv 0) (bw (Jc (pv 1)) cX)))) (r6 (Jd D.xc D.xf (pv 0) (pv 1))),?_⟩
   refine ⟨_,rfl,_,rfl,i,rfl,h0,h1,fun x=>⟨e,x,rfl,he,_,rfl,_,rfl,e,i,rfl,rfl,he,hq⟩⟩
theorem AZ (D:DX K mg "NoCall" "NoCall.__init__" jd S C f fd) (xs:XS K S) (mS:mg "SliceError" = some (.ref S)):XP P w K mg base "NoCall" C 1:=by
 refine ⟨D.m,D.kp,⟨_,D.xc⟩,f,fd,D.hi,D.ht,D.b,D.F.ok AY (fun vs H Q E h=>?_) fun bD A outer s H vs Q E hr h=>?_⟩
 · obtain ⟨e,i,rfl,_⟩:=h; rfl
 · obtain ⟨e,i,rfl,h0,h1,he,hq⟩:=h
   refine ⟨_,nZ (nJ (vE xs (by rfl) mS D.xc (bw (pv 0) (bw (Jc (pv 1)) cX)))) (r6 (Jd D.xc D.xf (pv 0) (pv 1))),?_⟩
   refine ⟨_,rfl,_,rfl,i,rfl,h0,h1,fun x=>⟨e,x,rfl,he,_,rfl,_,rfl,e,i,rfl,rfl,he,hq⟩⟩
end
end Ei
namespace Gen
open PySem L2 VT
def HA:Rw→Bool
 | .df _ _=>true
 | _=>false
theorem Ej (r:Rw):decide (wd r="def")=HA r:=by cases r <;> rfl
def rR (rs:List Rw):List Nat:=(List.range rs.length).filter fun k=>(rs[k]?.map HA).getD false
def Jo:Rw→Str
 | .df f _=>f
 | _=>""
def named (rs:List Rw) (f:Str):List Nat:=(rR rs).filter fun k=>decide ((rs[k]?.map Jo).getD "" = f)
theorem nX {rs:List Rw} {k:Nat}:k∈rR rs↔∃ f ps,rs[k]?=some (.df f ps):=by
 unfold rR
 rw [EK,zy]
 constructor
 · rintro ⟨h1,h2⟩
   rw [kg h1] at h2 ⊢
   cases q:rs[k] with
   | df f ps=>exact ⟨f,ps,rfl⟩
   | _=>rw [q] at h2; cases h2
 · rintro ⟨f,ps,h⟩
   exact ⟨(fH.mp h).1,by rw [h]; rfl⟩
theorem mx {rs:List Rw} {f:Str} {k:Nat}:k∈named rs f↔∃ ps,rs[k]?=some (.df f ps):=by
 unfold named
 rw [EK,nX]
 constructor
 · rintro ⟨⟨g,ps,h⟩,h2⟩
   rw [h] at h2
   have:g=f:=of_decide_eq_true h2
   subst this
   exact ⟨ps,h⟩
 · rintro ⟨ps,h⟩
   exact ⟨⟨f,ps,h⟩,by rw [h]; exact decide_eq_true rfl⟩
theorem tV (rs:List Rw) (f:Str):(named rs f).Pairwise (· < ·):=by
 unfold named rR
 exact List.Pairwise.filter _ (List.Pairwise.filter _ List.pairwise_lt_range)
theorem my {rs:List Rw} {f:Str} {j:Nat}:∀ n,mf (aY rs n) f=some j→∀ k < j,∀ ps,rs[k]?≠some (.df f ps)
 | 0,h=>nomatch h
 | n+1,h=>by
   have old:mf (aY rs n) f=some j→∀ k < j,∀ ps,rs[k]?≠some (.df f ps):=my n
   simp only [aY] at h
   split at h
   · rename_i r hr
     cases r with
     | df g ps =>
       simp only [IZ] at h
       split at h
       · exact old h
       · rename_i hn
         rw [nR] at h
         split at h
         · rename_i i hi
           cases h
           exact old hi
         · rename_i Fx
           simp only [mf] at h
           split at h
           · rename_i e
             cases h
             intro k hk qs hq
             obtain ⟨j2,WL⟩:=eI hq _ hk
             rw [Fx] at WL
             cases WL
           · cases h
     | _=>exact old h
   · exact old h
theorem xV (rs:List Rw) (f:Str):(named rs f).head?=mf (aY rs rs.length) f:=by
 cases ha:mf (aY rs rs.length) f with
 | none =>
   cases hl:named rs f with
   | nil=>rfl
   | cons k l =>
     obtain ⟨ps,h⟩:=mx.mp (by rw [hl]; exact ij:k∈named rs f)
     obtain ⟨j,hj⟩:=eI h rs.length (fH.mp h).1
     rw [ha] at hj; cases hj
 | some j =>
   obtain ⟨_,ps,hj⟩:=gu _ ha
   have hm:j∈named rs f:=mx.mpr ⟨ps,hj⟩
   cases hl:named rs f with
   | nil=>rw [hl] at hm; cases hm
   | cons k l =>
     have hk:k∈named rs f:=by rw [hl]; exact ij
     obtain ⟨qs,hq⟩:=mx.mp hk
     have h1:¬ k < j:=fun z=>my _ ha k z qs hq
     have hs:=tV rs f
     rw [hl] at hs hm
     rcases dD.mp hm with z | z
     · rw [z]; rfl
     · have:=(List.pairwise_cons.mp hs).1 j z
       omega
theorem Ek:∀ (rs HB:List Rw) (st:List Str) (i:Nat),rs.map wd=HB.map wd→brk st rs i=brk st HB i
 | [],[],_,_,_=>rfl
 | [],_ :: _,_,_,h=>by simp at h
 | _ :: _,[],_,_,h=>by simp at h
 | r :: rs,r' :: HB,st,i,h=>by
   rw [iF,iF] at h
   injection h with h1 h2
   unfold brk
   rw [h1,Ek rs HB _ _ h2]
theorem rS:∀ (rs:List Rw) (st:List Str) (i j:Nat),brk st rs i=none→brk st rs j=none
 | [],st,i,j,h=>by
   unfold brk at h ⊢
   split at h
   · rename_i e; rw [if_pos e]
   · cases h
 | r :: rs,st,i,j,h=>by
   unfold brk at h ⊢
   split at h
   · rename_i e; rw [if_pos e]; exact rS rs _ _ _ h
   · cases h
theorem zj {x f:Str} {as:List kj} {g:Str} {ps:List Str} {b:List Rw}:∀ (a:List Rw) (st:List Str) (i:Nat),brk st (a ++ .df g ps :: b) i=none→brk st (a ++ .df g ps :: .call x f as :: b) i=none
 | [],st,i,h=>by
   rw [List.nil_append] at h ⊢
   unfold brk at h ⊢
   split at h
   · rename_i e
     rw [if_pos e]
     have hw:wd (Rw.df g ps)="def":=rfl
     have Y3:wd (Rw.call x f as)="call":=rfl
     rw [hw,y8] at h ⊢
     unfold brk
     have hm:cT (st ++ [me]) "call" = true:=by
      unfold cT
      rw [MU]
      decide +kernel
     have hg:ir (st ++ [me]) "call" = st ++ [me]:=by
      unfold ir
      rw [if_neg (by decide +kernel),if_neg (by decide +kernel),if_neg (by decide +kernel)]
     rw [Y3,if_pos hm,hg]
     exact rS _ _ _ _ h
   · cases h
 | r :: a,st,i,h=>by
   rw [List.cons_append] at h ⊢
   unfold brk at h ⊢
   split at h
   · rename_i e; rw [if_pos e]; exact zj a _ _ h
   · cases h
theorem zk:∀ (rs:List Rw) (st:List Str) (i:Nat),jG (some st) rs=some []→brk st rs i=none
 | [],st,i,h=>by
   have:st=[]:=Option.some.inj h
   unfold brk; rw [if_pos this]
 | r :: rs,st,i,h=>by
   have h':jG (Aq (some st) r) rs=some []:=h
   cases hm:cT st (wd r) with
   | false =>
     have:Aq (some st) r=none:=by show (if cT st (wd r)=true then _ else _)=_; rw [hm]; rfl
     rw [this,pq] at h'
     cases h'
   | true =>
     rw [rG hm] at h'
     unfold brk
     rw [if_pos hm]
     exact zk rs _ _ h'
end Gen
namespace nA
open PySem L2 VT Gen wH
open fB (gr kU)
def top (i:Nat):Stmt:=PySem.Challenge.pw_slicewise_k08_calls_refused.main.body.getD i (.Pass ⟨0,0,0,0⟩)
abbrev gw:Stmt:=top 40
abbrev k9:Stmt:=top 41
abbrev gx:Stmt:=top 42
abbrev vJ:Stmt:=top 43
abbrev s_call:Stmt:=top 44
abbrev jc:Stmt:=top 45
abbrev vK:Stmt:=top 46
abbrev pK:Stmt:=top 47
abbrev gy:Stmt:=top 48
abbrev ib:Stmt:=top 49
abbrev ju:Stmt:=top 50
abbrev tO:Stmt:=top 51
abbrev k_:Stmt:=top 52
abbrev nV:Stmt:=top 53
abbrev ze:Stmt:=top 54
abbrev jO:Stmt:=top 55
structure Ni (mg:Str→Option Value):Prop where
 list:mg "list" = none
 len:mg "len" = none
 range:mg "range" = none
 tuple:mg "tuple" = none
def nT (l:List Nat):List T:=l.map fun k:Nat=>T.int (k:Int)
def El (ts:List T) (q:Rt→Prop):Prop:=∃ rs:List Rw,ts=[.lst (rs.map aH)]∧rs.length≤100∧q (.fr (.lst (nT (rR rs))))
def Em (ts:List T) (q:Rt→Prop):Prop:=∃ (rs:List Rw) (i:Nat),ts=[.lst (rs.map aH),.int (i:Int)]∧i < rs.length∧rs.length≤100∧q (.vw (.bl (bR rs i)))
def tW (rs:List Rw):T:=match fu rs with
 | some i=>.tup [.str "call",.int (i:Int)]
 | none=>.tup [.str "made",.lst (rs.map aH)]
def P7 (ts:List T) (q:Rt→Prop):Prop:=∃ rs:List Rw,ts=[.lst (rs.map aH)]∧rs.length≤100∧q (.vw (tW rs))
theorem la {rs:List Rw} {i:Nat} {r:Rw} (h:rs[i]?=some r):jS (rs.map aH) (i:Int)=some (aH r):=aq (by rw [ly,h]; rfl)
def U1 (r:Rt) (A B:Prop):Prop:=match r with
 | .vw (.bl true)=>A
 | .vw (.bl false)=>B
 | _=>False
theorem P8 {c:Bool} {A B:Prop} (h1:c=true→A) (h2:c=false→B):U1 (.vw (.bl c)) A B:=by
 cases c with
 | true=>exact h1 rfl
 | false=>exact h2 rfl
theorem mz:∀ l:List Str,mI (l.map T.str)=true
 | []=>rfl
 | x :: l=>by rw [iF]; exact mz l
theorem lb {α:Type} (f:α→T) (l:List α) (k:Nat) (h:k≤l.length):dj (l.map f) none (some (k:Int))=(l.take k).map f:=by
 unfold dj
 rw [bZ,HT.iK,HT.ky,List.drop_zero,Nat.sub_zero,Nat.min_eq_left h,List.map_take]
section
variable {P:Program} {w:World} {K:PySem.W.Frag} {mg:Str→Option Value} {base:Heap}
abbrev Eo:List Str:=["_law_rows"]
theorem zl:aI Eo ["_law_rows"] (aj tO):=L2.gI
theorem xW:(Eo ++ (["_law_k"]:List Str)).Nodup:=by decide +kernel
theorem HC {f:Addr} {fd:FuncData} (D:Df K mg "_law_defs" tO ["_law_rows"] f fd) (M:Ni mg):b8 P w K mg base "_law_defs" ["_law_rows"] 1 (bW K 1 El):=by
 refine D.jo (j5 D.F zl rfl fun bD A outer s H E Ox hr ts q hG=>?_)
 have nd:=zl.nd
 have hu:=bp.fF hr
 have np:∀ {i:Nat},aX ⟨H,[],Ox⟩ i:=kG
 refine ⟨_,(ah (aD (VP.vx (ji (ts:=["_law_k"]) rfl (by rfl) (cL (by rfl) M.range (VP.vr (aB ay az (by rfl) M.len gE (ao (aa 0) aw)))) (fun _ _ _ _ _ _=>(aQ (i:=1) xW rfl (Or.inl rfl) np)) (fun _ _ _ _ _ _=>(kD (bz hu (VP.vr (aJ (VP.vr (aJ (aa 0) (aa 1))) (VP.vr af))) (VP.vr au)))) (fun _ _ _ _ _ _=>(ak 1)))))),fun _=>?_⟩
 obtain ⟨rs,rfl,hn,hq⟩:=hG
 have hl:((rs.map aH).length:Int)=((rs.length:Nat):Int):=by rw [bZ]
 refine ⟨rfl,(by show -(2 ^ 62:Int)≤((rs.map aH).length:Int); omega),(by show ((rs.map aH).length:Int) < (2 ^ 62:Int); omega),?_⟩
 refine ⟨by rw [gP]; exact Gen.small (by show (((rs.map aH).length:Int)).toNat≤1000; omega),?_⟩
 have en:(((rs.map aH).length:Int)).toNat=rs.length:=by omega
 show cQ _ _ _ _ (rangeT 0 (((rs.map aH).length:Int)).toNat) _
 rw [en]
 refine c9 (xs:=List.range rs.length) (f:=fun i:Nat=>T.int (0+(i:Int))) (u:=fun i:Nat=>T.int (i:Int)) (p:=fun k=>(rs[k]?.map HA).getD false) (fun _ _ _ _ _=>trivial) (fun i hi k s hk=>?_) ?_
 · have BD:=zy.mp hi
   have hr:rs[i]?=some rs[i]:=kg BD
   rw [Ig]
   rw [hr] at hk
   obtain ⟨l,el⟩:=s_ rs[i]
   refine ⟨_,la hr,?_⟩
   rw [el]
   refine ⟨_,aq (j:=0) rfl,?_⟩
   have e:=Ej rs[i]
   show if decide (wd rs[i]="def")=true then _ else _
   rw [e]
   exact hk
 · exact hq
abbrev tX:List Str:=["_law_rows","_law_at","_law_row","_law_named"]
theorem vS:aI tX ["_law_rows","_law_at"] (aj nV):=L2.gI
theorem vT:(tX ++ (["_law_one"]:List Str)).Nodup:=by decide +kernel
theorem vU:(tX ++ (["_law_k"]:List Str)).Nodup:=by decide +kernel
theorem Ep {f:Addr} {fd:FuncData} (D:Df K mg "_law_wrong" nV ["_law_rows","_law_at"] f fd) (M:Ni mg) (xX:b8 P w K mg base "_law_defs" ["_law_rows"] 1 (bW K 1 El)):b8 P w K mg base "_law_wrong" ["_law_rows","_law_at"] 2 (bW K 2 Em):=by
 obtain ⟨Mm,HF,xY,xZ,x4,x5⟩:=xX
 refine D.jo (j5 D.F vS rfl fun bD A outer s H E Ox hr ts q hG=>?_)
 have nd:=vS.nd
 have hu:=bp.fF hr
 have np:∀ {i:Nat},aX ⟨H,[],Ox⟩ i:=kG
 refine ⟨_,(ag (aV (i:=2) nd rfl (Or.inr rfl) (VP.vx (aJ (aa 0) (aa 1))) np)
   (ag (aS (bz hu (VP.vr (aJ (aa 2) (VP.vr af))) (VP.vr au))
     (ah (aD (VP.vx (Cz (VP.vr (aJ (aa 2) (VP.vr af))) (VP.vr (ji (ts:=["_law_one"]) rfl (by rfl) (iT (VP.ve (bF (aa 0) cj (bH (aa 1))))) (fun _ _ _ _ _ _=>(aQ (i:=4) vT rfl (Or.inl rfl) np)) (fun _ _ _ _ _ _=>(kD (bz hu (VP.vr (aJ (aa 4) (VP.vr af))) (VP.vr au)))) (fun _ _ _ _ _ _=>(VP.ve (aJ (aa 4) (VP.vr af))))))))))
     aA)
   (ag (aS (bz hu (VP.vr (aJ (aa 2) (VP.vr af))) (VP.vr au))
     (ag (nM (i:=3) (ts:=["_law_k"]) nd rfl (Or.inl rfl) rfl (by rfl) (iT (VP.ve (aL x5 (hr.mono (by decide)) (by rfl) xY xZ x4 (ae (ak 0) ai)))) (fun _ _ _ _ _ _=>(aQ (i:=4) vU rfl (Or.inl rfl) np)) (fun _ _ _ _ _ _=>(kD (bz hu (VP.vr (aJ (VP.vr (aJ (aa 0) (aa 4))) (VP.vr af))) (VP.vr (aJ (aa 2) (VP.vr af)))))) (fun _ _ _ _ _ _=>(ak 4)) np)
     (ah (aD (VP.vx (yI (mG hu (aa 3) (VP.vr (bO ai))) (yI (OB (VP.vr (aJ (aa 3) (VP.vr af))) (aa 1)) (lL (Co hu (VP.vr (aB ay az (by rfl) M.len gE (ao (VP.vr (aJ (VP.vr (aJ (aa 0) (VP.vr (aJ (aa 3) (VP.vr af))))) (VP.vr af))) aw))) (VP.vr (aB ay az (by rfl) M.len gE (ao (VP.vr (aJ (aa 2) (VP.vr af))) aw)))))))))))
     aA)
   (ah (aD (VP.vx jH)))))),fun _=>?_⟩
 obtain ⟨rs,i,rfl,hi,hn,hq⟩:=hG
 have hr:rs[i]?=some rs[i]:=kg hi
 refine ⟨_,la hr,?_⟩
 generalize rs[i]=r at hr
 cases r with
 | df g ps =>
   refine ⟨_,aq (j:=0) rfl,_,aq (j:=1) rfl,?_⟩
   have hc:=lb aH rs i (by omega)
   refine ⟨rfl,?_⟩
   show (dj (rs.map aH) none (some (i:Int))).length≤sizeLine∧cQ _ _ _ _ (dj (rs.map aH) none (some (i:Int))) _
   rw [hc]
   refine ⟨small (by simp; omega),?_⟩
   refine c9 (xs:=rs.take i) (f:=aH) (u:=fun r:Rw=>T.str (Jo r)) (p:=HA) (fun _ _ _ _ _=>trivial) (fun r1 h1 k s hk=>?_) ?_
   · have e:=Ej r1
     cases r1 with
     | df g1 U2=>exact ⟨_,aq (j:=0) rfl,_,aq (j:=1) rfl,hk⟩
     | _=>exact ⟨_,aq (j:=0) rfl,hk⟩
   · have e1:((rs.take i).filter HA).map (fun r:Rw=>T.str (Jo r))=(((rs.take i).filter HA).map Jo).map T.str:=by rw [List.map_map]; rfl
     have e2:sN (.str g) ((((rs.take i).filter HA).map Jo).map T.str)=bR rs i:=by
      rw [kW]
      unfold bR
      rw [hr]
      obtain ⟨j,hj⟩:=eI hr rs.length hi
      obtain ⟨_,qs,Y4⟩:=gu _ hj
      have hm:=my _ hj
      dsimp only
      rw [hj,Ib]
      simp only [decide_eq_true_eq,Bool.not_eq_true',decide_eq_false_iff_not,Option.some.injEq,yr,EK]
      constructor
      · rintro ⟨r1,⟨h1,h2⟩,h3⟩ E7
        subst E7
        cases r1 with
        | df g1 U2 =>
          obtain ⟨m,RP⟩:=Ju.mp h1
          rw [List.getElem?_take] at RP
          split at RP
          · have Po:g1=g:=h3
            subst Po
            exact hm m (by assumption) U2 RP
          · cases RP
        | _=>cases h2
      · intro E7
        have fz:j < i:=by
         rcases Nat.lt_trichotomy j i with z | z | z
         · exact z
         · exact absurd z E7
         · exact absurd hr (hm i z ps)
        exact ⟨_,⟨Ju.mpr ⟨j,by rw [List.getElem?_take,if_pos fz]; exact Y4⟩,rfl⟩,rfl⟩
     rw [e1]
     refine ⟨rfl,mz _,?_⟩
     show q (.vw (.bl (sN (.str g) ((((rs.take i).filter HA).map Jo).map T.str))))
     rw [e2]
     exact hq
 | call x f as =>
   refine ⟨_,aq (j:=0) rfl,_,aq (j:=0) rfl,?_⟩
   refine ⟨rfl,rfl,rs,rfl,hn,?_⟩
   have EW:(rR rs).length≤rs.length:=by unfold rR; have:=List.length_filter_le (fun k=>(rs[k]?.map HA).getD false) (List.range rs.length); rw [EJ] at this; exact this
   refine ⟨small (by unfold nT; rw [bZ]; omega),?_⟩
   refine c9 (xs:=rR rs) (f:=fun k:Nat=>T.int (k:Int)) (u:=fun k:Nat=>T.int (k:Int)) (p:=fun k=>decide ((rs[k]?.map Jo).getD "" = f)) (fun _ _ _ _ _=>trivial) (fun k1 h1 k s hk=>?_) ?_
   · obtain ⟨g1,U2,EV⟩:=nX.mp h1
     rw [EV] at hk
     exact ⟨_,la EV,_,aq (j:=1) rfl,_,aq (j:=2) rfl,hk⟩
   · have hh:=xV rs f
     have ew:bR rs i = !tI rs i f as:=by unfold bR; rw [hr]
     rw [ew] at hq
     have hp:plainT (.lst (nT (named rs f)))=true:=by simp only [plainT]; exact ck (fun _=>rfl) _
     have hd:dep (.lst (nT (named rs f)))≤100:=by have:=cR (f:=fun k:Nat=>T.int (k:Int)) (n:=0) (fun _=>dX _) (named rs f); simp only [dep]; unfold nT; omega
     rw [show (rR rs).filter (fun k=>decide ((rs[k]?.map Jo).getD "" = f))=named rs f from rfl]
     refine ⟨small (by simp),hp,rfl,hd,?_⟩
     cases E9:named rs f with
     | nil =>
       rw [E9] at hh
       rw [rL hh.symm] at hq
       exact hq
     | cons j l =>
       rw [E9] at hh
       obtain ⟨_,ps,hj⟩:=gu _ hh.symm
       rw [rM hh.symm hj] at hq
       refine ⟨_,aq (j:=0) rfl,?_⟩
       refine P8 (c:=decide ((j:Int) < (i:Int))) (fun hc=>?_) (fun hc=>?_)
       · have E7:j < i:=by have:=of_decide_eq_true hc; omega
         rw [if_pos E7] at hq
         exact hq
       · have E7:¬ j < i:=by have:=of_decide_eq_false hc; omega
         rw [if_neg E7] at hq
         refine ⟨_,aq (j:=0) rfl,_,la hj,_,aq (j:=2) rfl,_,aq (j:=3) rfl,?_⟩
         show q (.vw (.bl (!decide (((ps.map T.str).length:Int)=((as.map lu).length:Int)))))
         rw [bZ,bZ]
         have e:decide ((ps.length:Int)=(as.length:Int))=decide (ps.length=as.length):=by rw [Ib]; simp; omega
         rw [e]
         exact hq
 | _=>exact ⟨_,aq (j:=0) rfl,_,aq (j:=0) rfl,by unfold bR at hq; rw [hr] at hq; exact hq⟩
abbrev Jp:List Str:=["_law_rows","_law_wrong_here"]
theorem Er:aI Jp ["_law_rows"] (aj ze):=L2.gI
theorem A0:(Jp ++ (["_law_k"]:List Str)).Nodup:=by decide +kernel
theorem Mn {f:Addr} {fd:FuncData} (D:Df K mg "_law_due" ze ["_law_rows"] f fd) (M:Ni mg) (HG:b8 P w K mg base "_law_wrong" ["_law_rows","_law_at"] 2 (bW K 2 Em)):b8 P w K mg base "_law_due" ["_law_rows"] 3 (bW K 1 P7):=by
 obtain ⟨RQ,P9,HH,HI,HJ,HK⟩:=HG
 refine D.jo (j5 D.F Er rfl fun bD A outer s H E Ox hr ts q hG=>?_)
 have nd:=Er.nd
 have hu:=bp.fF hr
 have np:∀ {i:Nat},aX ⟨H,[],Ox⟩ i:=kG
 refine ⟨_,(ag (nM (i:=1) (ts:=["_law_k"]) nd rfl (Or.inl rfl) rfl (by rfl) (cL (by rfl) M.range (VP.vr (aB ay az (by rfl) M.len gE (ao (aa 0) aw)))) (fun _ _ _ _ _ _=>(aQ (i:=2) A0 rfl (Or.inl rfl) np)) (fun _ _ _ _ _ _=>(kD (cY (aL HK (hr.mono (by decide)) (by rfl) HH HI HJ (ae (ak 0) (ae (ak 2) ai)))))) (fun _ _ _ _ _ _=>(ak 2)) np)
   (ag (aS (bz hu (aa 1) (VP.vr (bO ai)))
     (ah (aD (VP.vx (bc (ae (VP.ve au) (ae (ak 0) ai))))))
     aA)
   (ah (aD (VP.vx (bc (ae (VP.ve au) (ae (VP.ve (aJ (aa 1) (VP.vr af))) ai)))))))),fun _=>?_⟩
 obtain ⟨rs,rfl,hn,hq⟩:=hG
 refine ⟨rfl,(by show -(2 ^ 62:Int)≤((rs.map aH).length:Int); have:(rs.map aH).length=rs.length:=bZ ..; omega),(by show ((rs.map aH).length:Int) < (2 ^ 62:Int); have:(rs.map aH).length=rs.length:=bZ ..; omega),?_⟩
 refine ⟨by rw [gP]; exact Gen.small (by show (((rs.map aH).length:Int)).toNat≤1000; have:(rs.map aH).length=rs.length:=bZ ..; omega),?_⟩
 have en:(((rs.map aH).length:Int)).toNat=rs.length:=by have:(rs.map aH).length=rs.length:=bZ ..; omega
 show cQ _ _ _ _ (rangeT 0 (((rs.map aH).length:Int)).toNat) _
 rw [en]
 refine c9 (xs:=List.range rs.length) (f:=fun i:Nat=>T.int (0+(i:Int))) (u:=fun i:Nat=>T.int (i:Int)) (p:=bR rs) (fun _ _ _ _ _=>trivial) (fun i hi k s hk=>?_) ?_
 · have BD:=zy.mp hi
   rw [Ig]
   exact ⟨rfl,rs,i,rfl,BD,hn,hk⟩
 · have hf:fu rs=((List.range rs.length).filter (bR rs)).head?:=by unfold fu; rw [List.head?_filter]
   unfold tW at hq
   generalize (List.range rs.length).filter (bR rs)=l at hf ⊢
   have hp:plainT (.lst (nT l))=true:=by simp only [plainT]; exact ck (fun _=>rfl) _
   have hd:dep (.lst (nT l))≤100:=by have:=cR (f:=fun k:Nat=>T.int (k:Int)) (n:=0) (fun _=>dX _) l; simp only [dep]; unfold nT; omega
   refine ⟨small (by simp),hp,rfl,hd,?_⟩
   cases l with
   | nil =>
     have II:fu rs=none:=hf
     rw [II] at hq
     exact ⟨small (by simp),hq⟩
   | cons j l =>
     have II:fu rs=some j:=hf
     rw [II] at hq
     exact ⟨_,aq (j:=0) rfl,small (by simp),hq⟩
end
end nA
namespace nA
open PySem L2 VT Gen wH
open fB (gr kU cm bY pj pk)
theorem HL {ys:List Str} (hn:∀ y∈ys,bV y=true) {f:Str} {ps:List Str} (h1:f∈ys) (h2:ps.length≤3) (h3:ps.Nodup) (h4:∀ p∈ps,p∈ys):gr (aH (.df f ps)):=by
 have a:=bY hn h1
 have b:=pj hn (by omega) h3 h4
 refine cm (ss:=[.nm,.par]) (by decide +kernel) rfl (by simp) ?_ ?_
 · simp only [zw,d8,false_implies,implies_true,and_true]; exact ⟨.inl a.2,b.2⟩
 · simp only [zt,zu,uo,zB,fB.iD,a.1,b.1]; rfl
theorem A1 {ys:List Str} (hn:∀ y∈ys,bV y=true) {x f:Str} {as:List kj} (h1:x∈ys) (h2:f∈ys) (h3:as.length≤4) (h4:∀ a∈as,cy ys a):gr (aH (.call x f as)):=by
 have a:=bY hn h1
 have b:=bY hn h2
 have c:=pk hn h3 h4
 refine cm (ss:=[.nm,.nm,.ops]) (by decide +kernel) rfl (by simp) ?_ ?_
 · simp only [zw,d8,false_implies,implies_true,and_true]; exact ⟨.inl a.2,.inl b.2,c.2⟩
 · simp only [zt,zu,uo,zB,fB.iD,a.1,b.1,c.1]; rfl
def Y5 (ys:List Str):Rw→Prop
 | .df f ps=>f∈ys∧ps.length≤3∧ps.Nodup∧∀ p∈ps,p∈ys
 | _=>True
structure tY (ys:List Str) (rs:List Rw):Prop where
 n:rs.length≤60
 g:∀ r∈rs,gr (aH r)∧Y5 ys r
 b:brk [] rs 0=none
 d:∃ (k:Nat) (f:Str) (ps:List Str),rs[k]?=some (Rw.df f ps)
def zm (ts:List T) (q:Rt→Prop):Prop:=∃ (rs:List Rw) (c:Int) (ys:List Str),ts=[.lst (rs.map aH),.int c,.lst (ys.map .str)]∧ys.length=6∧ys.Nodup∧(∀ y∈ys,bV y=true)∧rs.length < 60∧tY ys rs ∧
 ∀ HB:List Rw,tY ys HB→q (.fr (.lst (HB.map aH)))
theorem vV {rs:List Rw} {a:Nat} {r:Rw} (h:rs[a]?=some r):rs=rs.take a ++ r :: rs.drop (a+1):=by
 rw [← za h,List.take_append_drop]
theorem inv_def {ys:List Str} (hn:∀ y∈ys,bV y=true) {rs:List Rw} (I:tY ys rs) {a:Nat} {f g:Str} {ps qs:List Str} (h:rs[a]?=some (.df f ps)) (h1:g∈ys) (h2:qs.length≤3) (h3:qs.Nodup) (h4:∀ p∈qs,p∈ys):tY ys (rs.take a ++ [.df g qs] ++ rs.drop (a+1)):=by
 have ha:=(fH.mp h).1
 refine ⟨by have:=I.n; simp; omega,fun r hr=>?_,?_,a,g,qs,?_⟩
 · rcases iw.mp hr with hr | hr
   · rcases iw.mp hr with hr | hr
     · exact I.g r (QZ hr)
     · rw [um.mp hr]; exact ⟨HL hn h1 h2 h3 h4,h1,h2,h3,h4⟩
   · exact I.g r (QX hr)
 · rw [← I.b]
   refine Ek _ _ _ _ ?_
   conv=>rhs; rw [vV h]
   simp [wd]
 · rw [Jx,BH (by simp; omega)]
   simp [Nat.min_eq_left (Nat.le_of_lt ha)]
theorem Es {ys:List Str} {rs:List Rw} (I:tY ys rs) (hl:rs.length < 60) {a:Nat} {f:Str} {ps:List Str} (h:rs[a]?=some (.df f ps)) {x y:Str} {as:List kj} (hg:gr (aH (.call x y as))):tY ys (rs.take (a+1) ++ [.call x y as] ++ rs.drop (a+1)):=by
 have ha:=(fH.mp h).1
 have e1:rs.take (a+1)=rs.take a ++ [.df f ps]:=by rw [List.take_succ,h]; rfl
 refine ⟨by simp; omega,fun r hr=>?_,?_,a,f,ps,?_⟩
 · rcases iw.mp hr with hr | hr
   · rcases iw.mp hr with hr | hr
     · exact I.g r (QZ hr)
     · rw [um.mp hr]; exact ⟨hg,trivial⟩
   · exact I.g r (QX hr)
 · have hb:=I.b
   rw [vV h] at hb
   have:=zj (x:=x) (f:=y) (as:=as) _ _ _ hb
   rw [e1]
   simpa using this
 · rw [Jx,uh (by simp; omega),List.getElem?_take,if_pos (by omega)]
   exact h
end nA
namespace VT
open PySem PySem.Spec PyProof.Rows L2
end VT
namespace HT
open PySem PySem.Spec PyProof.Rows
theorem lg {prog:Program} {w:World} {A:Around} {E:Value→Shared→Prop} {s:Shared} {t sl:Addr} {items:Array Value} {vl vu:Value} {lo hi:Option Int} {Q:Value→Shared→Prop} (ht:IsTup s.heap t items) (hs:s.heap.IsSliceOf sl vl vu .none) (pl:IsPart vl lo) (pu:IsPart vu hi)
  (hw:cp items.size 0 lo=0∧cp items.size items.size hi=items.size) (h:Q (.ref t) s):wpAny (model prog w) A (getItem (.ref t) (.ref sl)) Q E s:=by
 obtain ⟨os,Ks,Rf,N2⟩:=id hs
 have SK:s.TypeIs (.ref sl) "slice":=⟨os,Ks,Rf⟩
 unfold getItem
 try with_reducible refine wpAny_holding ?_
 first | refine wpAny_bind (wpAny_pure ?_) | skip
 refine wpAny_bind (wpAny_sequenceKey ht.typeIs (by decide) ?_)
 refine wpAny_bind (wpAny_callSpecial?_slot (name:=Str.ofString "__getitem__") ht.typeIs MS
  (wpAny_call_entry MS ht.typeIs entry_tuple_getitem ?_ (args_tuple_getitem _ _)))
 show wpAny _ _ (Builtin.Tuple.tupleItemsOf (.ref t) >>= _) _ _ s
 refine wpAny_bind (tupleItemsOf_ ht ?_)
 refine wpAny_bind (wpAny_typeOf SK ?_)
 rw [if_pos (by decide)]
 refine wpAny_bind (gh hs pl pu ?_)
 have U3:(((cp items.size 0 lo:Nat):Int) == 0 && (1:Int) == 1 && (cp items.size items.size hi - cp items.size 0 lo) == items.size)=true:=by
  rw [hw.1,hw.2]; simp
 show wpAny _ _ (if (((cp items.size 0 lo:Nat):Int) == 0 && (1:Int) == 1 && (cp items.size items.size hi - cp items.size 0 lo) == items.size)=true then _ else _) _ _ s
 rw [if_pos U3]
 unfold Builtin.Tuple.tupleIsExact
 refine wpAny_bind (wpAny_bind (wpAny_typeOf ht.typeIs (wpAny_pure ?_)))
 rw [if_pos (by decide)]
 refine wpAny_bind (wpAny_rule ?_)
 exact wpAny_pure ⟨_,rfl,wpAny_pure h⟩
end HT
namespace L2
open PySem PySem.Spec PyProof.Rows
def U4 (K:PySem.W.Frag):V→Option Int→Option Int→Hp→VK→Prop:=fun x lo hi H Q=>∃ a xs,x = .ref a∧dF K H a xs ∧
 ((HT.cp xs.length 0 lo=0∧HT.cp xs.length xs.length hi=xs.length)→Q (.ref a) H) ∧
 (¬ (HT.cp xs.length 0 lo=0∧HT.cp xs.length xs.length hi=xs.length)→∀ p,H p=none→Q (.ref p) (upd H p (.tup (r9 xs lo hi))))
theorem HM {X:Cx}:BA X (U4 X.K):=by
 intro pins s σ H x v vl vu lo hi sl Q I rx hs pl pu h
 obtain ⟨a,xs,rfl,hx,q1,q2⟩:=h
 by_cases hw:HT.cp xs.length 0 lo=0∧HT.cp xs.length xs.length hi=xs.length
 · cases rx
   obtain ⟨aP,r,ht,hz⟩:=I.tuple hx
   have hlen:aP.toArray.size=xs.length:=by rw [gD]; exact r.length.symm
   exact ⟨"tuple",_,MS.lookup,ht.typeIs,HT.lg ht hs pl pu (by rw [hlen]; exact hw) ⟨.ref a,H,I,rfl,q1 hw⟩⟩
 · exact B2 pins s σ H _ v vl vu lo hi sl Q I rx hs pl pu ⟨a,xs,rfl,hx,hw,q2 hw⟩
end L2
namespace VT
open PySem L2
def P_ (x:T) (lo hi:Option Int) (q:Rt→Prop):Prop:=match x with
 | .tup ts=>q (.vw (.tup (dj ts lo hi)))
 | _=>False
def U5 (fa:FE) (fl fh:FO):FP:=fun ρ Q=>fa ρ fun x=>fl ρ fun lo=>fh ρ fun hi=>P_ x lo hi Q
theorem A2 {X:Cx} {Z:Zc} {e:Expr} {lo hi:Option Expr} {pos p2:Pos} {fa:FE} {fl fh:FO} (he:VR X Z e fa) (hl:VO X Z lo fl) (hh:VO X Z hi fh):VP X Z (.Subscript e (.Slice lo hi none p2) pos) (U5 fa fl fh) :=
 .mk fun tm=>PE.weak (uv HM (he tm) (hl tm) (hh tm)) fun σ H Q ⟨ρ,O,q,I,hf,k⟩=>⟨ρ,O,_,I,hf,fun x hx v H1 s1 a1=>⟨ρ,O,_,I.same s1,hx,fun l hl H2 s2=>⟨ρ,O,_,(I.same s1).same s2,hl,fun u hu H3 s3=>by
  have J:=((I.same s1).same s2).same s3
  have a3:=(a1.same s2).same s3
  have S:=(s1.trans s2).trans s3
  unfold P_ at hu
  split at hu
  · obtain ⟨p,vs,rfl,q1,q2⟩:=a3.tup
    refine ⟨p,vs,rfl,q1,fun hw=>k _ hu _ _ S ⟨J,?_⟩,fun _ r hr=>k _ hu _ _ (S.trans (aM hr)) ⟨J.same (aM hr),br (dF.of aT) ((q2.cut _ _).same (aM hr))⟩⟩
    rw [q2.length] at hw
    rw [Cq hw]
    exact br q1 q2
  · exact hu.elim⟩⟩⟩
end VT
namespace nA
open PySem L2 VT Gen wH
open fB (gr kU)
theorem zo {α:Type} [DecidableEq α]:∀ {l m:List α},l.Nodup→(∀ a∈l,a∈m)→l.length≤m.length
 | [],m,_,_=>km _
 | a :: l,m,nd,s=>by
   rw [qe] at nd
   have ha:=s a ij
   have:=zo (l:=l) (m:=m.erase a) nd.2 fun b hb=>(List.mem_erase_of_ne (fun e=>nd.1 (by rw [← e]; exact hb))).mpr (s b (jC _ hb))
   rw [List.length_erase_of_mem ha] at this
   have:=List.length_pos_of_mem ha
   rw [Jz]
   omega
theorem zp {ys:List Str} {k:Nat} (h:k < ys.length):jS (ys.map T.str) (k:Int)=some (.str (ys.getD k "")):=aq (by rw [ly,List.getD,kg h]; rfl)
theorem A3 {α:Type} (f:α→T) (l:List α) (k:Nat):dj (l.map f) (some (k:Int)) none=(l.drop k).map f:=by
 by_cases h:k≤l.length
 · exact d7.vR f l k h
 · unfold dj
   rw [bZ,HT.ky,HT.iK,Nat.min_eq_right (by omega),Nat.sub_self,List.take_zero,List.drop_eq_nil_of_le (by omega)]
   rfl
section
variable {P:Program} {w:World} {K:PySem.W.Frag} {mg:Str→Option Value} {base:Heap}
abbrev vW:List Str:=["_law_rows","_law_cell","_law_words_here","_law_defs_here","_law_at","_law_word","_law_name","_law_parameters","_law_other","_law_call_here","_law_more"]
theorem rT:aI vW ["_law_rows","_law_cell","_law_words_here"] (aj k_):=L2.gI
theorem tZ:(vW ++ (["_law_one"]:List Str)).Nodup:=by decide +kernel
theorem A4 {f:Addr} {fd:FuncData} (D:Df K mg "_law_turned" k_ ["_law_rows","_law_cell","_law_words_here"] f fd) (M:Ni mg) (xX:b8 P w K mg base "_law_defs" ["_law_rows"] 1 (bW K 1 El)):b8 P w K mg base "_law_turned" ["_law_rows","_law_cell","_law_words_here"] 2 (bW K 3 zm):=by
 obtain ⟨Mm,HF,xY,xZ,x4,x5⟩:=xX
 refine D.jo (j5 D.F rT rfl fun bD A outer s H E Ox hr ts q hG=>?_)
 have nd:=rT.nd
 have hu:=bp.fF hr
 have np:∀ {i:Nat},aX ⟨H,[],Ox⟩ i:=kG
 refine ⟨_,(ag (aV (i:=3) nd rfl (Or.inl rfl) (VP.vx (aL x5 (hr.mono (by decide)) (by rfl) xY xZ x4 (ae (ak 0) ai))) np)
   (ag (aV (i:=4) nd rfl (Or.inl rfl) (VP.vx (aJ (aa 3) (VP.vr (aU (VP.vr (a_ (aa 1) (VP.vr af))) (VP.vr (aB ay az (by rfl) M.len gE (ao (aa 3) aw))))))) np)
   (ag (Cu (VP.ve (aJ (aa 0) (aa 4))) (gO (n:=3) rfl (bt (aQ (i:=5) nd rfl (Or.inl rfl) np) (bt (aQ (i:=6) nd rfl (Or.inl rfl) np) (bt (aQ (i:=7) nd rfl (Or.inr rfl) np) eB)))))
   (ag (aS (gj (VP.vr (aU (aa 1) (VP.vr af))) (VP.vr af))
     (ag (aV (i:=8) nd rfl (Or.inl rfl) (VP.vx (aJ (VP.vr (ba (VP.vr (bF (aa 2) cj (bH (VP.vr af)))) (VP.vr (bO (ae (VP.ve au) ai))))) (VP.vr (aU (VP.vr (a_ (aa 1) (VP.vr af))) (VP.vr af))))) np)
     (ag (aV (i:=9) nd rfl (Or.inl rfl) (VP.vx (bc (ae (VP.ve au) (ae (VP.ve (aJ (aa 2) (VP.vr af))) (ae (ak 8) (ae (VP.ve (eE fO iS (by rfl) M.tuple kH (ao (VP.vr (bF (VP.vr (bO (ae (VP.ve (aJ (aa 2) (VP.vr af))) (ae (VP.ve af) (ae (VP.ve (aJ (aa 2) (VP.vr af))) (ae (VP.ve (gN (VP.vr af))) ai)))))) cj (bH (VP.vr (aU (VP.vr (a_ (aa 1) (VP.vr af))) (VP.vr af)))))) aw))) ai)))))) np)
     (ah (aD (VP.vx (ba (VP.vr (ba (VP.vr (bF (aa 0) cj (bH (VP.vr (ba (aa 4) (VP.vr af)))))) (VP.vr (bO (ae (ak 9) ai))))) (VP.vr (bF (aa 0) (bH (VP.vr (ba (aa 4) (VP.vr af)))) cj))))))))
     aA)
   (ag (aS (bz hu (VP.vr (aU (aa 1) (VP.vr af))) (VP.vr af))
     (ah (aD (VP.vx (ba (VP.vr (ba (VP.vr (bF (aa 0) cj (bH (aa 4)))) (VP.vr (bO (ae (VP.ve (bc (ae (VP.ve au) (ae (VP.ve (aJ (aa 2) (VP.vr (aU (VP.vr (a_ (aa 1) (VP.vr af))) (VP.vr af))))) (ae (ak 7) ai))))) ai))))) (VP.vr (bF (aa 0) (bH (VP.vr (ba (aa 4) (VP.vr af)))) cj))))))
     aA)
   (ag (aS (VW.vc (dh (gj (VP.vr (aB ay az (by rfl) M.len gE (ao (aa 7) aw))) (VP.vr af)) (cH (bz hu (VP.vr (aU (VP.vr (a_ (aa 1) (VP.vr af))) (VP.vr af))) (VP.vr af)))))
     (ag (nM (i:=10) (ts:=["_law_one"]) nd rfl (Or.inl rfl) rfl (by rfl) (iT (ak 2)) (fun _ _ _ _ _ _=>(aQ (i:=11) tZ rfl (Or.inl rfl) np)) (fun _ _ _ _ _ _=>(kD (Lg (aa 11) (aa 7)))) (fun _ _ _ _ _ _=>(ak 11)) np)
     (ah (aD (VP.vx (ba (VP.vr (ba (VP.vr (bF (aa 0) cj (bH (aa 4)))) (VP.vr (bO (ae (VP.ve (bc (ae (VP.ve au) (ae (ak 6) (ae (VP.ve (ba (aa 7) (VP.vr (bc (ae (VP.ve (aJ (aa 10) (VP.vr af))) ai))))) ai))))) ai))))) (VP.vr (bF (aa 0) (bH (VP.vr (ba (aa 4) (VP.vr af)))) cj)))))))
     aA)
   (ah (aD (VP.vx (ba (VP.vr (ba (VP.vr (bF (aa 0) cj (bH (aa 4)))) (VP.vr (bO (ae (VP.ve (bc (ae (VP.ve au) (ae (ak 6) (ae (VP.ve (A2 (aa 7) cj (bH (VP.vr (gN (VP.vr af)))))) ai))))) ai))))) (VP.vr (bF (aa 0) (bH (VP.vr (ba (aa 4) (VP.vr af)))) cj)))))))))))),fun _=>?_⟩
 obtain ⟨rs,c,ys,rfl,hy,Gf,E9,hn,I,hq⟩:=hG
 refine ⟨rfl,rs,rfl,by omega,?_⟩
 have hlen:0 < (rR rs).length:=by
  obtain ⟨k,f,ps,hk⟩:=I.d
  exact List.length_pos_of_mem (nX.mpr ⟨f,ps,hk⟩)
 have hl:((nT (rR rs)).length:Int)=((rR rs).length:Int):=by unfold nT; rw [bZ]
 have b0:0≤c / 5 % ((rR rs).length:Int):=lp _ (by omega)
 have b1:c / 5 % ((rR rs).length:Int) < ((rR rs).length:Int):=mX _ (by omega)
 obtain ⟨o,eo⟩:=EI b0
 have ho:o < (rR rs).length:=by omega
 obtain ⟨f,ps,hk⟩:=nX.mp (BI ho)
 have Y6:jS (nT (rR rs)) (o:Int)=some (.int ((rR rs)[o]:Int)):=aq (by unfold nT; rw [ly,kg ho]; rfl)
 refine ⟨⟨by decide,by decide⟩,(by show (0:Int) < ((nT (rR rs)).length:Int); omega),?_⟩
 rw [hl,eo]
 refine ⟨_,Y6,?_⟩
 generalize (rR rs)[o]=a at hk ⊢
 have ha:=(fH.mp hk).1
 obtain ⟨hf,fE,U6,U7⟩:f∈ys∧ps.length≤3∧ps.Nodup∧∀ p∈ps,p∈ys:=(I.g _ (mW hk)).2
 refine ⟨_,la hk,?_⟩
 refine ⟨rfl,rfl,(by show (0:Int) < 5; decide),?_⟩
 have cA:=lb aH rs (a+1) (by omega)
 have cB:=lb aH rs a (by omega)
 have cC:=A3 aH rs (a+1)
 have e1:(((a:Int)+1))=((a+1:Nat):Int):=rfl
 have out:∀ (l:List Rw) (r:Rw),tY ys (l ++ [r] ++ rs.drop (a+1))→l.length≤60→∀ X:List T,X=l.map aH→(X.length+[aH r].length≤sizeLine∧(X ++ [aH r]).length+(dj (rs.map aH) (some ((a:Int)+1)) none).length≤sizeLine∧q (.fr (.lst (X ++ [aH r] ++ dj (rs.map aH) (some ((a:Int)+1)) none)))):=by
  rintro l r hi hl X rfl
  rw [e1,cC]
  refine ⟨small (by simp; omega),small (by simp; omega),?_⟩
  have:=hq _ hi
  rw [ud,ud] at this
  exact this
 refine b_ (fun h=>?_) (fun h=>?_)
 · have s0:0≤c / 15 % 4:=lp _ (by decide)
   have s1:c / 15 % 4 < 4:=mX _ (by decide)
   obtain ⟨m,em⟩:=EI s0
   have k0:0≤c / 60 % 5:=lp _ (by decide)
   have k1:c / 60 % 5 < 5:=mX _ (by decide)
   obtain ⟨k,ek⟩:=EI k0
   have c3:dj (ys.map T.str) none (some 3)=(ys.take 3).map T.str:=lb T.str ys 3 (by omega)
   have e4:(ys.take 3).map T.str ++ [T.str "nobodyno"]=(ys.take 3 ++ [("nobodyno" : Str)]).map T.str:=by rw [ud]; rfl
   have hl4:(ys.take 3 ++ [("nobodyno" : Str)]).length=4:=by simp; omega
   have WM:m < (ys.take 3 ++ [("nobodyno" : Str)]).length:=by omega
   have D_:(ys.take 3 ++ [("nobodyno" : Str)])[m]∈("nobodyno" : Str) :: ys:=by
    rcases iw.mp (BI WM) with z | z
    · exact jC _ (QZ z)
    · rw [um.mp z]; exact ij
   refine ⟨small (by simp),?_⟩
   rw [c3]
   refine ⟨small (by simp; omega),⟨by decide,by decide⟩,(by show (0:Int) < 4; decide),?_⟩
   rw [em]
   have h4:jS ((ys.take 3).map T.str ++ [T.str "nobodyno"]) (m:Int)=some (.str (ys.take 3 ++ [("nobodyno" : Str)])[m]):=by rw [e4]; exact aq (by rw [ly,kg WM]; rfl)
   generalize (ys.take 3 ++ [("nobodyno" : Str)])[m]=other at h4 D_
   refine ⟨_,h4,?_⟩
   refine ⟨_,zp (k:=3) (by omega),?_⟩
   refine ⟨_,zp (k:=0) (by omega),_,zp (k:=2) (by omega),small (by simp),?_⟩
   refine ⟨⟨by decide,by decide⟩,(by show (0:Int) < 5; decide),?_⟩
   rw [ek]
   have Mo:∀ k,k < 6→ys.getD k ""∈("nobodyno" : Str) :: ys:=fun k hk=>by rw [List.getD,kg (by omega:k < ys.length)]; exact jC _ (BI _)
   have c5:dj ([kj.nm (ys.getD 0 ""),.nu 1,.nm (ys.getD 2 ""),.nu (-5)].map lu) none (some (k:Int))=(([kj.nm (ys.getD 0 ""),.nu 1,.nm (ys.getD 2 ""),.nu (-5)].take k)).map lu:=lb lu _ k (by show k≤4; omega)
   have U8:∀ o∈[kj.nm (ys.getD 0 ""),.nu 1,.nm (ys.getD 2 ""),.nu (-5)],cy (("nobodyno" : Str) :: ys) o:=by
    intro o ho
    simp only [dD,d8,or_false] at ho
    rcases ho with rfl | rfl | rfl | rfl
    · exact Mo 0 (by decide)
    · exact ⟨by decide,by decide⟩
    · exact Mo 2 (by decide)
    · exact ⟨by decide,by decide⟩
   refine ⟨small (by simp),small (by simp),?_⟩
   have U9:∀ y∈("nobodyno" : Str) :: ys,bV y=true:=fun y hy=>by
    rcases dD.mp hy with rfl | hy
    · decide +kernel
    · exact E9 y hy
   have hg:=A1 U9 (Mo 3 (by decide)) D_ (as:=[kj.nm (ys.getD 0 ""),.nu 1,.nm (ys.getD 2 ""),.nu (-5)].take k) (by simp; omega) (fun o ho=>U8 o (QZ ho))
   have fin:=out (rs.take (a+1)) _ (Es I hn hk hg) (by simp; omega) (dj (rs.map aH) none (some ((a:Int)+1))) (by rw [e1]; exact cA)
   simp only [aH] at fin
   rw [← c5] at fin
   exact fin
 · have outD:∀ (g:Str) (qs:List Str),g∈ys→qs.length≤3→qs.Nodup→(∀ p∈qs,p∈ys)→_:=fun g qs h1 h2 h3 h4=>out (rs.take a) (.df g qs) (inv_def E9 I hk h1 h2 h3 h4) (by simp; omega) (dj (rs.map aH) none (some (a:Int))) cB
   refine ⟨by show (0:Int) < 5; decide,?_⟩
   refine b_ (fun h2=>?_) (fun h2=>?_)
   · have s0:0≤c / 15 % 3:=lp _ (by decide)
     have s1:c / 15 % 3 < 3:=mX _ (by decide)
     obtain ⟨m,em⟩:=EI s0
     refine ⟨⟨by decide,by decide⟩,(by show (0:Int) < 3; decide),?_⟩
     rw [em]
     exact ⟨_,zp (k:=m) (by omega),small (by simp),small (by simp),outD _ ps (by rw [List.getD,kg (by omega:m < ys.length)]; exact BI _) fE U6 U7⟩
   · have U_:dj (ps.map T.str) none (some (-1))=(ps.dropLast).map T.str:=by
      unfold dj
      rw [bZ,HT.iK,List.drop_zero,Nat.sub_zero,List.dropLast_eq_take,List.map_take]
      congr 1
      show (if (-1:Int) < 0 then ((-1:Int)+(ps.length:Int)).toNat else min (-1:Int).toNat ps.length)=_
      rw [if_pos (by decide)]
      omega
     have fz:((ps.map T.str).length:Int)=(ps.length:Int):=by rw [bZ]
     have less:=outD f ps.dropLast hf (by rw [MT]; omega) (U6.sublist (List.dropLast_sublist _)) (fun p hp=>U7 p ((List.dropLast_sublist _).subset hp))
     simp only [aH] at less
     rw [← U_] at less
     refine b_ (fun h3=>?_) (fun h3=>⟨small (by simp),small (by simp),less⟩)
     refine ⟨⟨by decide,by decide⟩,(by show (0:Int) < 2; decide),?_⟩
     refine b_ (fun h4=>?_) (fun h4=>⟨small (by simp),small (by simp),less⟩)
     refine ⟨rfl,small (by show (ys.map T.str).length≤1000; rw [bZ]; omega),?_⟩
     refine c9 (xs:=ys) (f:=T.str) (u:=T.str) (p:=fun y=>!decide (y∈ps)) (fun _ _ _ _ _=>trivial) (fun y hy k s hk=>?_) ?_
     · refine ⟨rfl,mz _,?_⟩
       show if (!sN (.str y) (ps.map T.str))=true then _ else _
       rw [kW]
       exact hk
     · have YW:ps.length < 3:=by omega
       obtain ⟨y,Y7,Y8⟩:∃ y∈ys,y∉ps:=by
        refine Classical.byContradiction fun z=>?_
        have sub:∀ y∈ys,y∈ps:=fun y hy=>Classical.byContradiction fun w=>z ⟨y,hy,w⟩
        have:=zo Gf sub
        omega
       obtain ⟨m0,ml,em⟩:∃ m0 ml,ys.filter (fun y=>!decide (y∈ps))=m0 :: ml:=by
        cases TN:ys.filter (fun y=>!decide (y∈ps)) with
        | nil =>
          have hz:y∈ys.filter (fun y=>!decide (y∈ps)):=EK.mpr ⟨Y7,by simp [Y8]⟩
          rw [TN] at hz
          cases hz
        | cons m0 ml=>exact ⟨m0,ml,rfl⟩
       have WN:m0∈ys∧m0∉ps:=by
        have:m0∈ys.filter (fun y=>!decide (y∈ps)):=by rw [em]; exact ij
        have:=EK.mp this
        exact ⟨this.1,by simpa using this.2⟩
       rw [em]
       have more:=outD f (ps ++ [m0]) hf (by simp; omega) (List.nodup_append.mpr ⟨U6,by simp,by rintro p hp _ hx rfl; rw [um] at hx; subst hx; exact WN.2 hp⟩) (fun p hp=>by
        rcases iw.mp hp with z | z
        · exact U7 p z
        · rw [um.mp z]; exact WN.1)
       simp only [aH,ud] at more
       exact ⟨_,aq (j:=0) rfl,small (by simp),small (by simp; omega),small (by simp),small (by simp),more⟩
end
def HN (ts:List T) (q:Rt→Prop):Prop:=∃ ns:List Int,ts=[.lst (ns.map .int)]∧ns.length≤63∧q (.vw (.bl true))
theorem Mp {ys:List Str} {pl:Plan} {n:Nat} {rs:List Rw} (h:Pre ys pl n rs) (h1:1≤n):∃ (k:Nat) (f:Str) (ps:List Str),rs[k]?=some (Rw.df f ps):=by
 cases h with
 | zero=>omega
 | @succ k rs f ps bG body o sk _ hk hb ho hs=>exact ⟨rs.length,f,ps,by rw [BH (dX _),Nat.sub_self]; rfl⟩
section
variable {P:Program} {w:World} {K:PySem.W.Frag} {mg:Str→Option Value} {base:Heap}
abbrev P':List Str:=["_law_script","_law_words_here","_law_rows","_law_k","_law_held"]
theorem Et:aI P' ["_law_script"] (aj jO):=L2.gI
theorem Mq {f:Addr} {fd:FuncData} (D:Df K mg "law" jO ["_law_script"] f fd) (M:Ni mg) (A5:b8 P w K mg base "_law_cell_at" ["_law_script","_law_k"] 1 (bW K 2 d7.Jg)) (HP:b8 P w K mg base "_law_words" ["_law_cell","_law_many"] 1 (bW K 2 d7.DW)) (Mr:b8 P w K mg base "_law_plan" ["_law_cell","_law_words_here"] 1 (bW K 2 d7.Jm)) (A6:b8 P w K mg base "_law_program" ["_law_cells","_law_words_here","_law_plan_here"] 5 (bW K 3 d7.vQ)) (Eu:b8 P w K mg base "_law_turned" ["_law_rows","_law_cell","_law_words_here"] 2 (bW K 3 zm)) (Qa:b8 P w K mg base "_law_due" ["_law_rows"] 3 (bW K 1 P7)) (A7:b8 P w K mg base "_law_outcome" ["_law_rows"] 8 (bW K 1 Hm.PJ)):cN P w K mg base iN 9 f fd ["_law_script"] (bW K 1 HN):=by
 obtain ⟨Nj,Ms,jx,jy,jz,jA⟩:=A5
 obtain ⟨RS,Qb,m_words,HQ,HR,HS⟩:=HP
 obtain ⟨U',RT,Mt,Mu,Mv,Mw⟩:=Mr
 obtain ⟨Nk,Mx,A8,A9,A_,Ba⟩:=A6
 obtain ⟨Qc,Nl,Ew,Ey,Ez,EA⟩:=Eu
 obtain ⟨WO,Va,Qd,Qe,Qf,Qg⟩:=Qa
 obtain ⟨Nm,My,Bb,Bc,Bd,Be⟩:=A7
 refine j5 D.F Et rfl fun bD A outer s H E Ox hr ts q hG=>?_
 have nd:=Et.nd
 have hu:=bp.fF hr
 have np:∀ {i:Nat},aX ⟨H,[],Ox⟩ i:=kG
 refine ⟨_,(ag (aV (i:=1) nd rfl (Or.inl rfl) (VP.vx (aL HS (hr.mono (by decide)) (by rfl) m_words HQ HR (ae (VP.ve (aL jA (hr.mono (by decide)) (by rfl) jx jy jz (ae (ak 0) (ae (VP.ve af) ai)))) (ae (VP.ve af) ai)))) np)
   (ag (aV (i:=2) nd rfl (Or.inl rfl) (VP.vx (aL Ba (hr.mono (by decide)) (by rfl) A8 A9 A_ (ae (VP.ve (bF (aa 0) (bH (VP.vr af)) (bH (VP.vr af)))) (ae (ak 1) (ae (VP.ve (aL Mw (hr.mono (by decide)) (by rfl) Mt Mu Mv (ae (VP.ve (aL jA (hr.mono (by decide)) (by rfl) jx jy jz (ae (ak 0) (ae (VP.ve af) ai)))) (ae (ak 1) ai)))) ai))))) np)
   (ag (dm Bt rfl (cL (by rfl) M.range (VP.vr (ba (VP.vr af) (VP.vr (aU (VP.vr (a_ (VP.vr (aL jA (hr.mono (by decide)) (by rfl) jx jy jz (ae (ak 0) (ae (VP.ve af) ai)))) (VP.vr af))) (VP.vr af)))))) (aQ (i:=3) nd rfl (Or.inl rfl) np)
     (ah (aS (gj (VP.vr (aB ay az (by rfl) M.len gE (ao (aa 2) aw))) (VP.vr af))
       (ah (aV (i:=2) nd rfl (Or.inl rfl) (VP.vx (aL EA (hr.mono (by decide)) (by rfl) Ew Ey Ez (ae (ak 2) (ae (VP.ve (aU (VP.vr (aL jA (hr.mono (by decide)) (by rfl) jx jy jz (ae (ak 0) (ae (VP.ve (ba (VP.vr af) (aa 3))) ai)))) (VP.vr (jY (VP.vr af) (VP.vr af))))) (ae (ak 1) ai))))) np))
       aA)))
   (ag (aV (i:=4) nd rfl (Or.inl rfl) (VP.vx (eE gJ jZ (by rfl) M.list wQ (ao (aa 2) aw))) np)
   (ah (aD (VP.vx (oi (mG hu (VP.vr (aL Be (hr.mono (by decide)) (by rfl) Bb Bc Bd (ae (ak 2) ai))) (VP.vr (aL Qg (hr.mono (by decide)) (by rfl) Qd Qe Qf (ae (ak 4) ai)))) (lL (mG hu (aa 2) (aa 4))))))))))),fun _=>?_⟩
 obtain ⟨ns,rfl,h63,hq⟩:=hG
 have xQ:(cO (ns.getD 0 0) 6).length=6:=xb _ _
 have E9:∀ y∈cO (ns.getD 0 0) 6,bV y=true:=xu
 have Gf:(cO (ns.getD 0 0) 6).Nodup:=vm (by decide)
 refine ⟨rfl,ns,0,rfl,rfl,_,6,rfl,by decide,by decide,?_⟩
 generalize cO (ns.getD 0 0) 6=ys at xQ E9 Gf ⊢
 obtain ⟨ms,UZ,Ul⟩:=d7.zi T.int ns (some 5) (some 50)
 refine ⟨rfl,ns,1,rfl,rfl,_,ys,rfl,xQ,fun pl fE h1 h3=>?_⟩
 refine ⟨rfl,ms,ys,pl,by rw [← UZ]; rfl,by omega,⟨xQ,fun y hy=>by have:=fB.kT (E9 y hy); omega,h3,fun p hp=>?_⟩,h1,fun rs jT hlen=>?_⟩
 · have:=(vn xQ fE p.1 p.2 hp).2
   omega
 have bC:=LY xQ Gf fE jT
 have I0:tY ys rs:=⟨hlen,fun r hr=>⟨kU E9 (bC r hr),by
  have h:=bC r hr
  cases r with
  | df f ps=>exact ⟨h.1,mD h.2.1 (by decide),h.2.2⟩
  | _=>trivial⟩,zk rs [] 0 (G0 jT),Mp jT h1⟩
 refine ⟨rfl,ns,1,rfl,⟨by decide,by decide⟩,(by show (0:Int) < 3; decide),?_⟩
 have m0:0≤ns.getD 1 0 / 3 % 3:=lp _ (by decide)
 have m1:ns.getD 1 0 / 3 % 3 < 3:=mX _ (by decide)
 generalize ns.getD 1 0 / 3 % 3=m at m0 m1 ⊢
 refine ⟨by omega,by omega,?_⟩
 refine dO (fun i ρ=>∃ (b3:Option (T×Bool)) (rs:List Rw),ρ=[some (.lst (ns.map .int),false),some (.lst (ys.map .str),false),some (.lst (rs.map aH),false),b3,none]∧tY ys rs) ⟨none,rs,rfl,I0⟩ ?_ ?_
 · rintro i ρ hi ⟨b3,qO,rfl,I1⟩
   rw [Ig]
   have hl:((qO.map aH).length:Int)=(qO.length:Int):=by rw [bZ]
   refine b_ (fun h=>?_) (fun h=>⟨_,qO,rfl,I1⟩)
   exact ⟨rfl,ns,2+i,rfl,by decide,by decide,rfl,qO,_,ys,rfl,xQ,Gf,E9,by omega,I1,fun HB I'=>⟨_,HB,rfl,I'⟩⟩
 · rintro ρ ⟨b3,qO,rfl,I1⟩
   have hl:((qO.map aH).length:Int)=(qO.length:Int):=by rw [bZ]
   have hp:plainT (.lst (qO.map aH))=true:=by simp only [plainT]; exact ck xi qO
   have hd:dep (.lst (qO.map aH))≤100:=by have:=cR (f:=aH) (n:=2) u9 qO; simp only [dep]; omega
   have hx:=iP _ hp
   have ho:Hm.xN qO=tW qO:=by unfold Hm.xN tW; rw [I1.b] <;> rfl
   have dp:plainT (tW qO)=true∧dep (tW qO)≤100:=by
    unfold tW
    split
    · exact ⟨rfl,by simp [dep,lM]⟩
    · refine ⟨?_,?_⟩
      · simp only [plainT,bT] at hp ⊢
        rw [hp]; rfl
      · have:=cR (f:=aH) (n:=2) u9 qO
        simp only [dep,lM] at hd ⊢
        omega
   have WQ:=iP _ dp.1
   refine ⟨rfl,qO,rfl,I1.n,fun r hr=>(I1.g r hr).1,?_⟩
   rw [ho]
   obtain ⟨l,el⟩:∃ l,tW qO = .tup l:=by unfold tW; split <;> exact ⟨_,rfl⟩
   refine ⟨rfl,qO,rfl,by have:=I1.n; omega,?_⟩
   rw [el] at dp WQ ⊢
   refine ⟨dp.1,dp.1,dp.2,?_⟩
   show (Iu (fun _ Q=>Q (.vw (.bl (eqT (.tup l) (.tup l))))) _) _ _
   rw [WQ]
   refine ⟨hp,hp,hd,?_⟩
   show q (.vw (.bl (eqT (.lst (qO.map aH)) (.lst (qO.map aH)))))
   rw [hx]
   exact hq
end
end nA
namespace EX
open PySem PySem.Spec PySem.Calls PyProof.Rows L2
open PySem.W (findIn typeIn clsIn subIn mroIn specialIn takesIn kitOne)
def Dd:Value→Bool
 | .str _ _=>true
 | _=>false
def Vb (K:PySem.W.Frag) (a:Addr):Bool:=match K.lookup a with
 | some ⟨_,_,.cls cd,_⟩=>(match K.lookup cd.ns with
   | some ⟨_,_,.dict es _,_⟩=>es.toList.all (fun e=>Dd e.key) && (nsFind es "__init__").isNone
   | _=>false)
 | _=>false
def RU (K:PySem.W.Frag) (C:Addr) (tl:List Addr):Bool:=match K.lookup C with
 | some ⟨c,_,.cls cd,sl⟩=>c == .type "type" && (cd.mro == (Value.ref C :: (tl.map Value.ref ++ E4)) && (cd.hasDict && (!cd.hasDel && ((match sl.toList with
   | [_,_,_,_,some v,_]=>v == .builtin "ValueError.__new__"
   | _=>false) && tl.all (Vb K)))))
 | _=>false
theorem Qh {K:PySem.W.Frag} {a:Addr} (h:Vb K a=true):∃ c dd cd sl o es ep,K.lookup a=some ⟨c,dd,.cls cd,sl⟩∧K.lookup cd.ns=some o∧o.data = .dict es ep∧StrKeys es∧nsFind es "__init__" = none:=by
 unfold Vb at h
 split at h
 · rename_i c dd cd sl h1
   split at h
   · rename_i c2 d2 es ep yz h2
     rw [iE] at h
     refine ⟨c,dd,cd,sl,_,es,ep,h1,h2,rfl,fun e he=>?_,Option.isNone_iff_eq_none.mp h.2⟩
     have:=zx.mp h.1 e (by simpa using he)
     cases q:e.key with
     | str n t=>exact ⟨n,t,rfl⟩
     | _=>rw [q] at this; cases this
   · cases h
 · cases h
theorem Jq {K:PySem.W.Frag} {C:Addr} {tl:List Addr} (h:RU K C tl=true):XC K C tl:=by
 unfold RU at h
 split at h
 · rename_i c dd cd sl h1
   simp only [iE] at h
   obtain ⟨e1,e2,e3,e4,e5,e6⟩:=h
   refine ⟨?_,fun a ha=>Qh (zx.mp e6 a ha)⟩
   obtain ⟨nm,bs,mro,ns,q,hd,sn,sub,ab,col,Qi⟩:=cd
   have e1:=beq_iff_eq.mp e1
   have e2:=beq_iff_eq.mp e2
   simp only at e2 e3 e4
   subst e1 e2 e3
   have e4:Qi=false:=by cases Qi <;> simp_all
   subst e4
   obtain ⟨l⟩:=sl
   match l,e5 with
   | [k0,k1,k2,k3,some v,k5],e5 =>
     have e5:=beq_iff_eq.mp e5
     subst e5
     exact ⟨nm,q,ns,bs,sn,sub,ab,col,dd,k0,k1,k2,k3,k5,h1⟩
 · cases h
def Vc (K:PySem.W.Frag) (C:Addr):Bool:=findIn K (.ref C) "__getattribute__" == some (some (.builtin "BaseException.__getattribute__")) && (findIn K (.ref C) "__getattr__" == some none && (findIn K (.ref C) "__setattr__" == some (some (.builtin "object.__setattr__")) &&
 (findIn K (.ref C) "place" == some none && (findIn K (.ref C) "__class__" == some (some (.builtin "object.__class__")) && (subIn K (.ref C) (.type "BaseException") == some true && (mroIn K C (.type "object") == some true &&
 (specialIn K (.builtin "object.__class__") "__get__" == some (some (.builtin "getset_descriptor.__get__")) && takesIn K (.builtin "object.__class__") == some true)))))))
theorem Qj {K:PySem.W.Frag} {C:Addr} (h:Vc K C=true):XF K C:=by
 unfold Vc at h
 simp only [iE,beq_iff_eq] at h
 obtain ⟨h1,h2,h3,h4,h5,h6,h7,h8,h9⟩:=h
 exact ⟨h1,h2,h3,h4,h5,h6,h7,h8,h9⟩
def Y9:PySem.W.CFound→Option Value
 | .val v=>some v
 | _=>none
def Vd (K:PySem.W.Frag) (S:Addr):Bool:=specialIn K (.ref S) "__getattribute__" == some (some (.builtin "type.__getattribute__")) && (PySem.W.readsIn K S (.type "type") && ((PySem.W.findCls K (.ref S) (.type "type") "__init__").bind Y9 == some (.builtin "ValueError.__init__")))
theorem Qk {K:PySem.W.Frag} {S:Addr} (h:Vd K S=true):XS K S:=by
 unfold Vd at h
 simp only [iE,beq_iff_eq] at h
 obtain ⟨h1,h2,h3⟩:=h
 refine ⟨h1,h2,?_⟩
 cases q:PySem.W.findCls K (.ref S) (.type "type") "__init__" with
 | none=>rw [q] at h3; cases h3
 | some r =>
   rw [q] at h3
   cases r with
   | val v=>rw [show v=Value.builtin "ValueError.__init__" from Option.some.inj h3]
   | get a b c d=>cases h3
def WR (K:PySem.W.Frag) (cl:List Addr) (S:Addr):Bool:=cl.all fun C=>RU K C [S] && (Vc K C && (kitOne K (.ref C) (.type "ValueError") == some true && cl.all fun D=>kitOne K (.ref C) (.ref D) == some (decide (C=D))))
theorem pQ {K:PySem.W.Frag} {cl:List Addr} {S:Addr} (h:WR K cl S=true):(∀ C∈cl,∀ D∈cl,kitOne K (.ref C) (.ref D)=some (decide (C=D)))∧(∀ C∈cl,kitOne K (.ref C) (.type "ValueError")=some true)∧∀ C∈cl,XC K C [S]∧XF K C:=by
 have h:=zx.mp h
 refine ⟨fun C hC D hD=>?_,fun C hC=>?_,fun C hC=>?_⟩
 · have:=h C hC
   simp only [iE,zx,beq_iff_eq] at this
   exact this.2.2.2 D hD
 · have:=h C hC
   simp only [iE,beq_iff_eq] at this
   exact this.2.2.1
 · have:=h C hC
   simp only [iE] at this
   exact ⟨Jq this.1,Qj this.2.1⟩
end EX
namespace fD
open PySem L2 VT
theorem Ql {K:PySem.W.Frag} {h:Heap} {mg:Str→Option Value} (X:K.In h) (G:h.Ns mainGlobals mg) {x:Str} {st:Stmt} {ps:List Str} {f:Addr} {oc:Value} {od an:Option Addr} {yy:Array (Option Value)} {kV doc pm bD ct:Value}
  (a:PySem.W.nsIn K mainGlobals x=some (some (.ref f))) (l:K.lookup f=some ⟨oc,od,.func (PySem.W.fnOf x x (ei st) (cx st) (aj st) .none kV doc pm an bD ct),yy⟩)
  (c:PySem.W.codeIn K bD x=true) (k:PySem.W.keepIn K (.ref f)=true)
  (hb:∀ (kV doc pm:Value) (an:Option Addr) (bD ct:Value) (us:List Value),us.length=ps.length→bindArgs (PySem.W.fnOf x x (ei st) (cx st) (aj st) .none kV doc pm an bD ct) ⟨us,[]⟩=pure (ps.zip us)) :
  ∃ f fd,Df K mg x st ps f fd:=by
 have F:=sj (st:=st) l c k
 exact ⟨f,_,F,jP X G a,F.binds hb⟩
theorem Ve {C:List Value→Prop} (h:C []):∀ us:List Value,us.length=0→C us
 | [],_=>h
theorem EB {n:Nat} {C:List Value→Prop} (h:∀ a,∀ us:List Value,us.length=n→C (a :: us)):∀ us:List Value,us.length=n+1→C us
 | a :: us,e=>h a us (Nat.succ.inj e)
theorem Qm {C:List Value→Prop} (h:∀ a,C [a]):∀ us:List Value,us.length=1→C us:=EB fun a=>Ve (h a)
theorem t5 {C:List Value→Prop} (h:∀ a,C [a]):∀ us:List Value,us.length=1→C us:=Qm h
theorem EC {C:List Value→Prop} (h:∀ a b,C [a,b]):∀ us:List Value,us.length=2→C us:=EB fun a=>t5 (h a)
theorem Qn {C:List Value→Prop} (h:∀ a b c,C [a,b,c]):∀ us:List Value,us.length=3→C us:=EB fun a=>EC (h a)
theorem WS {C:List Value→Prop} (h:∀ a b c d,C [a,b,c,d]):∀ us:List Value,us.length=4→C us:=EB fun a=>Qn (h a)
theorem Y_ {C:List Value→Prop} (h:∀ a b c d e,C [a,b,c,d,e]):∀ us:List Value,us.length=5→C us:=EB fun a=>WS (h a)
abbrev pE:Program:=PySem.Challenge.pw_slicewise_k08_calls_refused
noncomputable def qE:Program:=PySem.W.view pE [1,2,3,4,5,6,7,8,9,10,12,13,14,15,16,17,18,19,20,21,22,23,24,25,26,28,29,30,31,32,33,34,35,36,37,38,40,41,42,43,44,45,46,47,48,49,50,51,52,53,54,55]
def pR:List Str:=["FORMS"]
def Jr:List Addr:=[0,1,2,3,4,5,6,7,8,9,10,11,12,13,14,15,22,23,24,25,28,35,36,37,40,47,48,49,52,59,60,61,64,71,72,73,76,83,84,85,88,95,96,97,98,99,100,101,102,103,104,107,114,115,116,117,118,119,120,121,122,123,126,133,134,135,136,137,138,139,140,141,142,145,152,153,154,155,156,157,158,159,160,161,164,165,166,167,168,169,170,171,172,173,174,175,176,177,178,179,180,181,182,183,184,185,186,187,188,189,190,191,192,193,194,195,196,197,198,199,200,201,202,203,204,205,206,207,208,209,210,211,212,213,214,215,216,217,218,219,220,221,222,223,224,225,226,227,228,229,230,231,232,233,234,235,236,237,238,239,240,241,242,243,244,245,246,247,248,249,250,251,252,253,254,255,256,257,258,259,260,261,262,263,264,265,266,267,268,269,270,271,272,273,274,275,276,277,278,279,280,281,282,283,284,285,286,287,288,289,290,291,292,293,294,295,296,297,298,299,300,301,302,303,304,305,306,307,308,309,310,311,312,313,314,315,316,317,318,319,320,321,322,323,324,325,326,327,328,329,330,331,332,333,334,335,336,337,338,339,340,341,342,343,344,345,346,347,348,349,350,351,352,353,354,355,356,357,358,359,360,361,362,363,364,365,366,367,368,369,370,371,372,373,374,375,376,377,378,379,380,381,382,383,384,385,386,387,388,389,390,391,392,393,394]
abbrev OV:=Option (Option Value)
abbrev OO:=Option Obj
abbrev N (K:PySem.W.Frag) (x:Str):=PySem.W.nsIn K mainGlobals x
abbrev Lk (K:PySem.W.Frag) (a:Addr):=List.lookup a K
abbrev R (a:Addr):OV:=some (some (.ref a))
abbrev fo (x q:Str) (st:Stmt) (pm:Value) (c:Addr):OO:=some ⟨.type "function",none,.func (PySem.W.fnOf x q (ei st) (cx st) (aj st) .none .none .none pm none (.ref c) .none),#[]⟩
abbrev cI (K:PySem.W.Frag) (c:Value) (q:Str):=PySem.W.codeIn K c q
abbrev kI (K:PySem.W.Frag) (f:Addr):=PySem.W.keepIn K (.ref f)
abbrev fI (K:PySem.W.Frag) (c:Addr) (x:Str):=PySem.W.findIn K (.ref c) x
abbrev Q4:=OV×OO×Bool×Bool
noncomputable def q4 (K:PySem.W.Frag) (x:Str) (f c:Addr):Q4:=(N K x,Lk K f,cI K (.ref c) x,kI K f)
noncomputable def v4 (x:Str) (st:Stmt) (f:Addr) (pm:Value) (c:Addr):Q4:=(R f,fo x x st pm c,true,true)
theorem bI {K:PySem.W.Frag} {h:Heap} {mg:Str→Option Value} (X:K.In h) (G:h.Ns mainGlobals mg) {x:Str} {st:Stmt} {ps:List Str} {f c:Addr} {pm:Value} (e:q4 K x f c=v4 x st f pm c)
  (hb:∀ (kV doc pm:Value) (an:Option Addr) (bD ct:Value) (us:List Value),us.length=ps.length→bindArgs (PySem.W.fnOf x x (ei st) (cx st) (aj st) .none kV doc pm an bD ct) ⟨us,[]⟩=pure (ps.zip us)) :
  ∃ f fd,Df K mg x st ps f fd:=by
 unfold q4 v4 at e
 simp only [Prod.mk.injEq] at e
 exact Ql X G e.1 e.2.1 e.2.2.1 e.2.2.2 hb
abbrev XX:Type:=((((((OV×(OV×OV))×(OV×(OV×OV)))×((OO×(OV×OO))×((OV×OO)×(OV×OV))))×(((OV×(OV×OV))×((OV×OV)×(OV×OV)))×((OV×(OV×OV))×((OV×OV)×(OV×OV)))))×((((OV×(OV×OV))×(OV×(OV×OO)))×((OO×(OO×OO))×((OO×OO)×(OO×OO))))×(((OO×(OO×OO))×((OO×OO)×(OO×OO)))×((OV×(OV×OV))×((OV×OV)×(OV×OV))))))×(((((OV×(OV×OV))×(Bool×(Bool×Bool)))×((OV×(Bool×OO))×((Bool×Bool)×(Bool×OV))))×(((Bool×(OO×Bool))×((Bool×Bool)×(OV×OO)))×((Bool×(Bool×Q4))×((Q4×Q4)×(Q4×Q4)))))×((((Q4×(Q4×Q4))×(Q4×(Q4×Q4)))×((Q4×(Q4×Q4))×((Q4×Q4)×(Q4×Q4))))×(((Q4×(Q4×Q4))×((Q4×Q4)×(Q4×Q4)))×((Q4×(Q4×Q4))×((Q4×Q4)×(Q4×Q4)))))))
noncomputable def FF (K:PySem.W.Frag):XX:=((((((N K "H",(N K "LETTERS",N K "LONGEST_NAME")),(N K "MOST_PARTS",(N K "MOST_ROWS",N K "RECKONINGS"))),((Lk K 164,(N K "OPENERS",Lk K 235)),((N K "CLOSERS",Lk K 236),(N K "isinstance",N K "int")))),(((N K "bool",(N K "str",N K "len")),((N K "all",N K "tuple"),(N K "set",N K "zip"))),((N K "range",(N K "sum",N K "list")),((N K "enumerate",N K "ValueError"),(N K "is_name",N K "are_parameters"))))),((((N K "is_operand",(N K "is_reckoning",N K "is_key")),(N K "are_operands",(N K "FORMS",Lk K 215))),((Lk K 229,(Lk K 228,Lk K 227)),((Lk K 226,Lk K 225),(Lk K 224,Lk K 223)))),(((Lk K 222,(Lk K 221,Lk K 220)),((Lk K 219,Lk K 218),(Lk K 217,Lk K 216))),((N K "SliceError",(N K "TooGreat",N K "NoRow")),((N K "NoBlock",N K "NoCall"),(N K "NoText",N K "NoPlace")))))),(((((N K "Unlike",(N K "NoFault",N K "Done")),(EX.WR K [37,104,123,142,161,49,61,73,85] 24,(EX.Vd K 24,EX.RU K 24 []))),((fI K 123 "__init__",(PySem.W.isFn K (.ref 120),Lk K 120)),((cI K (.ref 119) "NoBlock.__init__",kI K 120),(kI K 123,fI K 142 "__init__")))),(((PySem.W.isFn K (.ref 139),(Lk K 139,cI K (.ref 138) "NoCall.__init__")),((kI K 139,kI K 142),(N K "law",Lk K 394))),((cI K (.ref 393) "law",(kI K 394,q4 K "is_number" 171 170)),((q4 K "is_name" 176 175,q4 K "is_operand" 183 182),(q4 K "is_field" 190 189,q4 K "is_key" 197 196))))),((((q4 K "is_reckoning" 204 203,(q4 K "are_operands" 209 208,q4 K "are_parameters" 214 213)),(q4 K "is_row" 234 233,(q4 K "may_stand" 264 263,q4 K "go_past" 271 270))),((q4 K "check_rows" 250 249,(q4 K "check_blocks" 257 256,q4 K "first_defs" 285 284)),((q4 K "may_call" 292 291,q4 K "check_calls" 278 277),(q4 K "program_of" 243 242,q4 K "_law_cell_at" 299 298)))),(((q4 K "_law_words" 306 305,(q4 K "_law_operand" 313 312,q4 K "_law_key" 320 319)),((q4 K "_law_call" 327 326,q4 K "_law_simple" 334 333),(q4 K "_law_lay" 341 340,q4 K "_law_plan" 346 345))),((q4 K "_law_program" 353 352,(q4 K "_law_which" 360 359,q4 K "_law_outcome" 367 366)),((q4 K "_law_defs" 372 371,q4 K "_law_turned" 377 376),(q4 K "_law_wrong" 382 381,q4 K "_law_due" 387 386)))))))
noncomputable def VV (w:World):XX:=((((((some (some (.int 1000000000000000000000000000000 389)),(some (some (.str wH.bx 391)),some (some (.int 8 393)))),(some (some (.int 4 395)),(some (some (.int 60 495)),R 164))),((some ⟨.type "tuple",none,.seq #[.str "plus" 397,.str "minus" 398,.str "times" 399,.str "over" 400,.str "rest" 401,.str "less" 402,.str "same" 403] 0,#[]⟩,(R 235,some ⟨.type "tuple",none,.seq #[.str "def" 497,.str "if" 498,.str "while" 499] 0,#[]⟩)),((R 236,some ⟨.type "tuple",none,.seq #[.str "give" 501,.str "end" 502] 0,#[]⟩),(some none,some none)))),(((some none,(some none,some none)),((some none,some none),(some none,some none))),((some none,(some none,some none)),((some none,some none),(R 176,R 214))))),((((R 183,(R 204,R 197)),(R 209,(R 215,some ⟨.type "dict",none,.dict #[⟨PyData.keyHash w.params "def",.str "def" 458,.ref 216⟩,⟨PyData.keyHash w.params "give",.str "give" 459,.ref 217⟩,⟨PyData.keyHash w.params "put",.str "put" 460,.ref 218⟩,⟨PyData.keyHash w.params "do",.str "do" 461,.ref 219⟩,⟨PyData.keyHash w.params "new",.str "new" 462,.ref 220⟩,⟨PyData.keyHash w.params "get",.str "get" 463,.ref 221⟩,⟨PyData.keyHash w.params "set",.str "set" 464,.ref 222⟩,⟨PyData.keyHash w.params "call",.str "call" 465,.ref 223⟩,⟨PyData.keyHash w.params "fail",.str "fail" 466,.ref 224⟩,⟨PyData.keyHash w.params "if",.str "if" 467,.ref 225⟩,⟨PyData.keyHash w.params "else",.str "else" 468,.ref 226⟩,⟨PyData.keyHash w.params "while",.str "while" 469,.ref 227⟩,⟨PyData.keyHash w.params "end",.str "end" 470,.ref 228⟩,⟨PyData.keyHash w.params "skip",.str "skip" 471,.ref 229⟩] 14,#[]⟩))),((some ⟨.type "tuple",none,.seq #[] 0,#[]⟩,(some ⟨.type "tuple",none,.seq #[] 0,#[]⟩,some ⟨.type "tuple",none,.seq #[.ref 183] 0,#[]⟩)),((some ⟨.type "tuple",none,.seq #[] 0,#[]⟩,some ⟨.type "tuple",none,.seq #[.ref 183] 0,#[]⟩),(some ⟨.type "tuple",none,.seq #[.ref 176] 0,#[]⟩,some ⟨.type "tuple",none,.seq #[.ref 176,.ref 176,.ref 209] 0,#[]⟩)))),(((some ⟨.type "tuple",none,.seq #[.ref 176,.ref 197,.ref 183] 0,#[]⟩,(some ⟨.type "tuple",none,.seq #[.ref 176,.ref 176,.ref 197] 0,#[]⟩,some ⟨.type "tuple",none,.seq #[.ref 176] 0,#[]⟩)),((some ⟨.type "tuple",none,.seq #[.ref 176,.ref 183,.ref 204,.ref 183] 0,#[]⟩,some ⟨.type "tuple",none,.seq #[.ref 176,.ref 183] 0,#[]⟩),(some ⟨.type "tuple",none,.seq #[.ref 183] 0,#[]⟩,some ⟨.type "tuple",none,.seq #[.ref 176,.ref 214] 0,#[]⟩))),((R 24,(R 37,R 104)),((R 123,R 142),(R 161,R 49)))))),(((((R 61,(R 73,R 85)),(true,(true,true))),((some (some (.ref 120)),(true,fo "__init__" "NoBlock.__init__" Ei.gA (.str "slicewise.errors" 187) 119)),((true,true),(true,some (some (.ref 139)))))),(((true,(fo "__init__" "NoCall.__init__" Ei.jd (.str "slicewise.errors" 187) 138,true)),((true,true),(R 394,fo "law" "law" nA.jO (.str "law_slicewise_k08_calls_refused" 578) 393))),((true,(true,v4 "is_number" fB.fL 171 (.str "slicewise.rows" 387) 170)),((v4 "is_name" fB.jq 176 (.str "slicewise.rows" 387) 175,v4 "is_operand" fB.gS 183 (.str "slicewise.rows" 387) 182),(v4 "is_field" fB.j6 190 (.str "slicewise.rows" 387) 189,v4 "is_key" fB.oX 197 (.str "slicewise.rows" 387) 196))))),((((v4 "is_reckoning" fB.dn 204 (.str "slicewise.rows" 387) 203,(v4 "are_operands" fB.dq 209 (.str "slicewise.rows" 387) 208,v4 "are_parameters" fB.dU 214 (.str "slicewise.rows" 387) 213)),(v4 "is_row" fB.o7 234 (.str "slicewise.rows" 387) 233,(v4 "may_stand" fB.i0 264 (.str "slicewise.programs" 493) 263,v4 "go_past" fB.gv 271 (.str "slicewise.programs" 493) 270))),((v4 "check_rows" fB.gU 250 (.str "slicewise.programs" 493) 249,(v4 "check_blocks" E6.b5 257 (.str "slicewise.programs" 493) 256,v4 "first_defs" fB.gW 285 (.str "slicewise.programs" 493) 284)),((v4 "may_call" E6.dW 292 (.str "slicewise.programs" 493) 291,v4 "check_calls" E6.cw 278 (.str "slicewise.programs" 493) 277),(v4 "program_of" E6.bU 243 (.str "slicewise.programs" 493) 242,v4 "_law_cell_at" d7.gw 299 (.str "law_slicewise_k08_calls_refused" 578) 298)))),(((v4 "_law_words" d7.k9 306 (.str "law_slicewise_k08_calls_refused" 578) 305,(v4 "_law_operand" d7.gx 313 (.str "law_slicewise_k08_calls_refused" 578) 312,v4 "_law_key" d7.vJ 320 (.str "law_slicewise_k08_calls_refused" 578) 319)),((v4 "_law_call" d7.s_call 327 (.str "law_slicewise_k08_calls_refused" 578) 326,v4 "_law_simple" d7.jc 334 (.str "law_slicewise_k08_calls_refused" 578) 333),(v4 "_law_lay" d7.vK 341 (.str "law_slicewise_k08_calls_refused" 578) 340,v4 "_law_plan" d7.pK 346 (.str "law_slicewise_k08_calls_refused" 578) 345))),((v4 "_law_program" d7.gy 353 (.str "law_slicewise_k08_calls_refused" 578) 352,(v4 "_law_which" Hm.ib 360 (.str "law_slicewise_k08_calls_refused" 578) 359,v4 "_law_outcome" Hm.ju 367 (.str "law_slicewise_k08_calls_refused" 578) 366)),((v4 "_law_defs" nA.tO 372 (.str "law_slicewise_k08_calls_refused" 578) 371,v4 "_law_turned" nA.k_ 377 (.str "law_slicewise_k08_calls_refused" 578) 376),(v4 "_law_wrong" nA.nV 382 (.str "law_slicewise_k08_calls_refused" 578) 381,v4 "_law_due" nA.ze 387 (.str "law_slicewise_k08_calls_refused" 578) 386)))))))
theorem x6 (w:World) (os:OsState):HE.lookA pE qE pR [] [] (HE.dH (w.withFollow "special-get-raises" false).params) (PySem.W.boot_heap (w.withFollow "special-get-raises" false).params) (w.withFollow "special-get-raises" false) 3655 os=some (true,(PySem.W.openGood qE pR).1,(PySem.W.openGood qE pR).2.1):=by
 rw [PySem.W.Fast.te2848547177322276819]
 kernel_rfl
theorem Bf (w:World) (os:OsState):HE.lookA pE qE pR [] [] (HE.dH (w.withFollow "special-get-raises" true).params) (PySem.W.boot_heap (w.withFollow "special-get-raises" true).params) (w.withFollow "special-get-raises" true) 3655 os=some (true,(PySem.W.openGood qE pR).1,(PySem.W.openGood qE pR).2.1):=by
 rw [PySem.W.Fast.te2848547177322276819]
 kernel_rfl
theorem Vf (w:World) (os:OsState):HE.lookA pE qE pR [] [] (HE.dH (w).params) (PySem.W.boot_heap (w).params) (w) 3655 os=some (true,(PySem.W.openGood qE pR).1,(PySem.W.openGood qE pR).2.1) :=
 PySem.W.byRow2 "special-get-raises" (P:=fun w=>∀ os,HE.lookA pE qE pR [] [] (HE.dH (w).params) (PySem.W.boot_heap (w).params) (w) 3655 os=some (true,(PySem.W.openGood qE pR).1,(PySem.W.openGood qE pR).2.1)) x6 Bf w os
theorem x8 (w:World) (os:OsState):HE.lookB pE qE pR [] [] (HE.dH (w.withFollow "special-get-raises" false).params) (w.withFollow "special-get-raises" false) 3655 os=some (PySem.W.openGood qE pR).2.2:=by
 rw [PySem.W.Fast.te312265020846911052]
 kernel_rfl
theorem Bg (w:World) (os:OsState):HE.lookB pE qE pR [] [] (HE.dH (w.withFollow "special-get-raises" true).params) (w.withFollow "special-get-raises" true) 3655 os=some (PySem.W.openGood qE pR).2.2:=by
 rw [PySem.W.Fast.te312265020846911052]
 kernel_rfl
theorem Vg (w:World) (os:OsState):HE.lookB pE qE pR [] [] (HE.dH (w).params) (w) 3655 os=some (PySem.W.openGood qE pR).2.2 :=
 PySem.W.byRow2 "special-get-raises" (P:=fun w=>∀ os,HE.lookB pE qE pR [] [] (HE.dH (w).params) (w) 3655 os=some (PySem.W.openGood qE pR).2.2) x8 Bg w os
theorem x9 (w:World) (os:OsState):HE.lookC pE Jr FF (HE.dH (w.withFollow "special-get-raises" false).params) (w.withFollow "special-get-raises" false) 3655 os=some (VV (w.withFollow "special-get-raises" false)):=by
 rw [PySem.W.Fast.te3135357915001837337]
 kernel_rfl
theorem Bh (w:World) (os:OsState):HE.lookC pE Jr FF (HE.dH (w.withFollow "special-get-raises" true).params) (w.withFollow "special-get-raises" true) 3655 os=some (VV (w.withFollow "special-get-raises" true)):=by
 rw [PySem.W.Fast.te3135357915001837337]
 kernel_rfl
theorem runC (w:World) (os:OsState):HE.lookC pE Jr FF (HE.dH (w).params) (w) 3655 os=some (VV (w)) :=
 PySem.W.byRow2 "special-get-raises" (P:=fun w=>∀ os,HE.lookC pE Jr FF (HE.dH (w).params) (w) 3655 os=some (VV (w))) x9 Bh w os
theorem Mz:PySem.Challenge.rw_slicewise_k08_calls_refused.wellSaid=true:=by kernel_rfl
noncomputable abbrev KE (w:World):PySem.W.Frag:=HE.Kf Jr (HE.sP pE 7990 w)
noncomputable abbrev dE:DefRec:=HE.O3 nA.jO
theorem hd:PySem.W.LeftO pE qE pR (HE.Gw qE [] []) (fun s=>Jr.map s.heap.get?) (fun w=>Jr.map (HE.sP pE 7990 w)) 7990∧∀ w,FF (KE w)=VV w:=HE.head (p:=pE) (q:=qE) (loose:=pR) (lv:=[]) (R:=[]) (as:=Jr) (N:=7990) (M:=3655) (F:=FF) (v:=VV) (by kernel_rfl) rfl (fun s=>by kernel_rfl) rfl Vf Vg runC
theorem MA {l:PySem.W.OpenLaw} {w:World} {K:PySem.W.Frag} {h:Heap} {mg:Str→Option Value} {fa:Addr} (X:K.In h) (G:h.Ns mainGlobals mg) (WU:mg "law" = some (.ref fa)) (hF:FF K=VV w) :
  ∃ fd:FuncData,(∀ (s:Shared) (v:Value),BindsTo s fd ⟨[v],[]⟩ [("_law_script",v)])∧∀ base:Heap,K.In base→base.Ns mainGlobals mg→cN l.prog w K mg base iN 9 fa fd ["_law_script"] (bW K 1 nA.HN):=by
 simp only [FF,VV,Prod.mk.injEq] at hF
 obtain ⟨⟨⟨⟨⟨⟨Y',⟨Za,Zb⟩⟩,⟨Zd,⟨Ze,Vh⟩⟩⟩,⟨⟨Vi,⟨Vj,Vk⟩⟩,⟨⟨Vl,Vm⟩,⟨gd,x_⟩⟩⟩⟩,⟨⟨⟨t6,⟨ED,pS⟩⟩,⟨⟨EE,pT⟩,⟨MB,MD⟩⟩⟩,⟨⟨vX,⟨ME,zq⟩⟩,⟨⟨t7,qP⟩,⟨ya,lh⟩⟩⟩⟩⟩,⟨⟨⟨⟨qQ,⟨nB,Bi⟩⟩,⟨nC,⟨Vn,Vo⟩⟩⟩,⟨⟨HU,⟨HV,HW⟩⟩,⟨⟨HX,MF⟩,⟨MH,MI⟩⟩⟩⟩,⟨⟨⟨MJ,⟨MK,MM⟩⟩,⟨⟨MN,MO⟩,⟨MQ,MR⟩⟩⟩,⟨⟨gf,⟨vY,EF⟩⟩,⟨⟨pU,rV⟩,⟨Bj,yb⟩⟩⟩⟩⟩⟩,⟨⟨⟨⟨⟨Bk,⟨yc,HY⟩⟩,⟨yd,⟨Zf,Zg⟩⟩⟩,⟨⟨ye,⟨yf,yg⟩⟩,⟨⟨yh,yi⟩,⟨yj,Bl⟩⟩⟩⟩,⟨⟨⟨Bm,⟨Bn,Bo⟩⟩,⟨⟨Bp,Bq⟩,⟨Qo,Qp⟩⟩⟩,⟨⟨Qq,⟨Qr,Vp⟩⟩,⟨⟨Vq,Vr⟩,⟨Vs,Vt⟩⟩⟩⟩⟩,⟨⟨⟨⟨Vu,⟨Vv,Vw⟩⟩,⟨Vx,⟨Vy,Qs⟩⟩⟩,⟨⟨Qt,⟨Qu,Qv⟩⟩,⟨⟨Qw,Qx⟩,⟨Qy,Qz⟩⟩⟩⟩,⟨⟨⟨QA,⟨QB,QC⟩⟩,⟨⟨QD,QE⟩,⟨QF,QG⟩⟩⟩,⟨⟨QH,⟨QI,QJ⟩⟩,⟨⟨QK,QL⟩,⟨QM,QN⟩⟩⟩⟩⟩⟩⟩:=hF
 have e:=WU.symm.trans (jP X G Qo)
 cases e
 have pV:=sj (st:=Ei.gA) yg yh yi
 have yk:Ei.DX K mg "NoBlock" "NoBlock.__init__" Ei.gA 24 123 120 _:=⟨pV,jP X G pU,yj,pV.binds (fun _ _ _ _ _ _=>(fD.EC fun _ _=>rfl)),((EX.pQ yd).2.2 123 (by simp)).1,((EX.pQ yd).2.2 123 (by simp)).2,ye,beq_iff_eq.mp yf⟩
 have rW:=sj (st:=Ei.jd) Bn Bo Bp
 have Br:Ei.DX K mg "NoCall" "NoCall.__init__" Ei.jd 24 142 139 _:=⟨rW,jP X G rV,Bq,rW.binds (fun _ _ _ _ _ _=>(fD.EC fun _ _=>rfl)),((EX.pQ yd).2.2 142 (by simp)).1,((EX.pQ yd).2.2 142 (by simp)).2,Bl,beq_iff_eq.mp Bm⟩
 have M2:fB.RE mg:=⟨⟨_,jP X G Y'⟩,⟨_,jP X G Za⟩,⟨_,jP X G Zb⟩,(kh X G gd),(kh X G x_),(kh X G t6),(kh X G ED),(kh X G pS),(kh X G EE)⟩
 have M3:fB.LN w K mg:=⟨M2,⟨_,jP X G Zd⟩,⟨164,jP X G Vh,fun H=>.inr ⟨_,_,_,Vi,rfl,rfl,Gen.small (by simp),.cons ⟨_,rfl⟩ (.cons ⟨_,rfl⟩ (.cons ⟨_,rfl⟩ (.cons ⟨_,rfl⟩ (.cons ⟨_,rfl⟩ (.cons ⟨_,rfl⟩ (.cons ⟨_,rfl⟩ (.nil)))))))⟩⟩,(kh X G gd),(kh X G x_),(kh X G t6),(kh X G ED),(kh X G pS),(kh X G EE),(kh X G pT),(kh X G MB),(kh X G MD)⟩
 have M4:fB.Wu w K mg:=⟨M3,⟨215,fun s=>match s with | .nm=>176 | .op=>183 | .key=>197 | .rk=>204 | .par=>214 | .ops=>209,(jP X G Vn),fun s=>match s with | .nm=>(jP X G ya) | .op=>(jP X G qQ) | .key=>(jP X G Bi) | .rk=>(jP X G nB) | .par=>(jP X G lh) | .ops=>(jP X G nC),⟨_,_,Vo,(by first | rfl | decide),.cons ⟨rfl,⟨_,rfl⟩,.ref 216,rfl,fun _ _=>br (vs:=[V.ref 176,V.ref 214]) (.inr ⟨_,_,_,MR,rfl,rfl,Gen.small (by simp),.cons rfl (.cons rfl (.nil))⟩) (aG.cons (by simp only [At]) (aG.cons (by simp only [At]) (aG.nil)))⟩ (.cons ⟨rfl,⟨_,rfl⟩,.ref 217,rfl,fun _ _=>br (vs:=[V.ref 183]) (.inr ⟨_,_,_,MQ,rfl,rfl,Gen.small (by simp),.cons rfl (.nil)⟩) (aG.cons (by simp only [At]) (aG.nil))⟩ (.cons ⟨rfl,⟨_,rfl⟩,.ref 218,rfl,fun _ _=>br (vs:=[V.ref 176,V.ref 183]) (.inr ⟨_,_,_,MO,rfl,rfl,Gen.small (by simp),.cons rfl (.cons rfl (.nil))⟩) (aG.cons (by simp only [At]) (aG.cons (by simp only [At]) (aG.nil)))⟩ (.cons ⟨rfl,⟨_,rfl⟩,.ref 219,rfl,fun _ _=>br (vs:=[V.ref 176,V.ref 183,V.ref 204,V.ref 183]) (.inr ⟨_,_,_,MN,rfl,rfl,Gen.small (by simp),.cons rfl (.cons rfl (.cons rfl (.cons rfl (.nil))))⟩) (aG.cons (by simp only [At]) (aG.cons (by simp only [At]) (aG.cons (by simp only [At]) (aG.cons (by simp only [At]) (aG.nil)))))⟩ (.cons ⟨rfl,⟨_,rfl⟩,.ref 220,rfl,fun _ _=>br (vs:=[V.ref 176]) (.inr ⟨_,_,_,MM,rfl,rfl,Gen.small (by simp),.cons rfl (.nil)⟩) (aG.cons (by simp only [At]) (aG.nil))⟩ (.cons ⟨rfl,⟨_,rfl⟩,.ref 221,rfl,fun _ _=>br (vs:=[V.ref 176,V.ref 176,V.ref 197]) (.inr ⟨_,_,_,MK,rfl,rfl,Gen.small (by simp),.cons rfl (.cons rfl (.cons rfl (.nil)))⟩) (aG.cons (by simp only [At]) (aG.cons (by simp only [At]) (aG.cons (by simp only [At]) (aG.nil))))⟩ (.cons ⟨rfl,⟨_,rfl⟩,.ref 222,rfl,fun _ _=>br (vs:=[V.ref 176,V.ref 197,V.ref 183]) (.inr ⟨_,_,_,MJ,rfl,rfl,Gen.small (by simp),.cons rfl (.cons rfl (.cons rfl (.nil)))⟩) (aG.cons (by simp only [At]) (aG.cons (by simp only [At]) (aG.cons (by simp only [At]) (aG.nil))))⟩ (.cons ⟨rfl,⟨_,rfl⟩,.ref 223,rfl,fun _ _=>br (vs:=[V.ref 176,V.ref 176,V.ref 209]) (.inr ⟨_,_,_,MI,rfl,rfl,Gen.small (by simp),.cons rfl (.cons rfl (.cons rfl (.nil)))⟩) (aG.cons (by simp only [At]) (aG.cons (by simp only [At]) (aG.cons (by simp only [At]) (aG.nil))))⟩ (.cons ⟨rfl,⟨_,rfl⟩,.ref 224,rfl,fun _ _=>br (vs:=[V.ref 176]) (.inr ⟨_,_,_,MH,rfl,rfl,Gen.small (by simp),.cons rfl (.nil)⟩) (aG.cons (by simp only [At]) (aG.nil))⟩ (.cons ⟨rfl,⟨_,rfl⟩,.ref 225,rfl,fun _ _=>br (vs:=[V.ref 183]) (.inr ⟨_,_,_,MF,rfl,rfl,Gen.small (by simp),.cons rfl (.nil)⟩) (aG.cons (by simp only [At]) (aG.nil))⟩ (.cons ⟨rfl,⟨_,rfl⟩,.ref 226,rfl,fun _ _=>br (vs:=[]) (.inr ⟨_,_,_,HX,rfl,rfl,Gen.small (by simp),.nil⟩) (aG.nil)⟩ (.cons ⟨rfl,⟨_,rfl⟩,.ref 227,rfl,fun _ _=>br (vs:=[V.ref 183]) (.inr ⟨_,_,_,HW,rfl,rfl,Gen.small (by simp),.cons rfl (.nil)⟩) (aG.cons (by simp only [At]) (aG.nil))⟩ (.cons ⟨rfl,⟨_,rfl⟩,.ref 228,rfl,fun _ _=>br (vs:=[]) (.inr ⟨_,_,_,HV,rfl,rfl,Gen.small (by simp),.nil⟩) (aG.nil)⟩ (.cons ⟨rfl,⟨_,rfl⟩,.ref 229,rfl,fun _ _=>br (vs:=[]) (.inr ⟨_,_,_,HU,rfl,rfl,Gen.small (by simp),.nil⟩) (aG.nil)⟩ (.nil)))))))))))))),by show ([("def" : Str),("give" : Str),("put" : Str),("do" : Str),("new" : Str),("get" : Str),("set" : Str),("call" : Str),("fail" : Str),("if" : Str),("else" : Str),("while" : Str),("end" : Str),("skip" : Str)]).Nodup; decide +kernel⟩⟩⟩
 have MP:fB.Au w K mg:=⟨⟨_,jP X G Ze⟩,⟨235,jP X G Vj,fun H=>.inr ⟨_,_,_,Vk,rfl,rfl,Gen.small (by simp),.cons ⟨_,rfl⟩ (.cons ⟨_,rfl⟩ (.cons ⟨_,rfl⟩ (.nil)))⟩⟩,⟨236,jP X G Vl,fun H=>.inr ⟨_,_,_,Vm,rfl,rfl,Gen.small (by simp),.cons ⟨_,rfl⟩ (.cons ⟨_,rfl⟩ (.nil))⟩⟩,(kh X G zq),(kh X G pS),(kh X G t7)⟩
 have ML:nA.Ni mg:=⟨(kh X G zq),(kh X G pS),(kh X G vX),(kh X G pT)⟩
 have MG:d7.Md mg:=⟨(kh X G pS),(kh X G vX),(kh X G pT),(kh X G ME)⟩
 have WV:EX.XS K 24:=EX.Qk Zf
 have MC:Hm.UP K mg 24 37 104 123 142 161 49 61 73 85:=⟨jP X G gf,jP X G vY,jP X G EF,jP X G pU,jP X G rV,jP X G Bj,jP X G yb,jP X G Bk,jP X G yc,jP X G HY,EX.Jq Zg,by decide,(EX.pQ yd).1,(EX.pQ yd).2.1,(EX.pQ yd).2.2,(kh X G gd),(kh X G x_),(kh X G t6),(kh X G qP)⟩
 obtain ⟨f0,fd0,D0⟩:=bI (ps:=["thing"]) X G Vp (fun _ _ _ _ _ _=>(fD.t5 fun _=>rfl))
 obtain ⟨f1,fd1,D1⟩:=bI (ps:=["thing"]) X G Vq (fun _ _ _ _ _ _=>(fD.t5 fun _=>rfl))
 obtain ⟨f2,fd2,D2⟩:=bI (ps:=["thing"]) X G Vr (fun _ _ _ _ _ _=>(fD.t5 fun _=>rfl))
 obtain ⟨f3,fd3,D3⟩:=bI (ps:=["thing"]) X G Vs (fun _ _ _ _ _ _=>(fD.t5 fun _=>rfl))
 obtain ⟨f4,fd4,D4⟩:=bI (ps:=["thing"]) X G Vt (fun _ _ _ _ _ _=>(fD.t5 fun _=>rfl))
 obtain ⟨f5,fd5,D5⟩:=bI (ps:=["thing"]) X G Vu (fun _ _ _ _ _ _=>(fD.t5 fun _=>rfl))
 obtain ⟨f6,fd6,D6⟩:=bI (ps:=["thing"]) X G Vv (fun _ _ _ _ _ _=>(fD.t5 fun _=>rfl))
 obtain ⟨f7,fd7,D7⟩:=bI (ps:=["thing"]) X G Vw (fun _ _ _ _ _ _=>(fD.t5 fun _=>rfl))
 obtain ⟨f8,fd8,D8⟩:=bI (ps:=["row"]) X G Vx (fun _ _ _ _ _ _=>(fD.t5 fun _=>rfl))
 obtain ⟨f9,fd9,D9⟩:=bI (ps:=["opened","word"]) X G Vy (fun _ _ _ _ _ _=>(fD.EC fun _ _=>rfl))
 obtain ⟨f10,Zh,Zi⟩:=bI (ps:=["opened","word"]) X G Qs (fun _ _ _ _ _ _=>(fD.EC fun _ _=>rfl))
 obtain ⟨f11,Zj,Zk⟩:=bI (ps:=["program"]) X G Qt (fun _ _ _ _ _ _=>(fD.t5 fun _=>rfl))
 obtain ⟨f12,Zl,Zm⟩:=bI (ps:=["program"]) X G Qu (fun _ _ _ _ _ _=>(fD.t5 fun _=>rfl))
 obtain ⟨f13,Zn,Zo⟩:=bI (ps:=["program"]) X G Qv (fun _ _ _ _ _ _=>(fD.t5 fun _=>rfl))
 obtain ⟨f14,Zp,Zq⟩:=bI (ps:=["program","firsts","place"]) X G Qw (fun _ _ _ _ _ _=>(fD.Qn fun _ _ _=>rfl))
 obtain ⟨f15,Zr,Zs⟩:=bI (ps:=["program"]) X G Qx (fun _ _ _ _ _ _=>(fD.t5 fun _=>rfl))
 obtain ⟨f16,Zt,Zu⟩:=bI (ps:=["rows"]) X G Qy (fun _ _ _ _ _ _=>(fD.t5 fun _=>rfl))
 obtain ⟨f17,Zv,Zw⟩:=bI (ps:=["_law_script","_law_k"]) X G Qz (fun _ _ _ _ _ _=>(fD.EC fun _ _=>rfl))
 obtain ⟨f18,Zx,Zy⟩:=bI (ps:=["_law_cell","_law_many"]) X G QA (fun _ _ _ _ _ _=>(fD.EC fun _ _=>rfl))
 obtain ⟨f19,Zz,ZA⟩:=bI (ps:=["_law_number","_law_words_here"]) X G QB (fun _ _ _ _ _ _=>(fD.EC fun _ _=>rfl))
 obtain ⟨f20,ZC,ZD⟩:=bI (ps:=["_law_number","_law_words_here"]) X G QC (fun _ _ _ _ _ _=>(fD.EC fun _ _=>rfl))
 obtain ⟨f21,ZE,ZF⟩:=bI (ps:=["_law_number","_law_name","_law_words_here","_law_later"]) X G QD (fun _ _ _ _ _ _=>(fD.WS fun _ _ _ _=>rfl))
 obtain ⟨f22,ZG,ZH⟩:=bI (ps:=["_law_number","_law_words_here","_law_later"]) X G QE (fun _ _ _ _ _ _=>(fD.Qn fun _ _ _=>rfl))
 obtain ⟨f23,ZI,ZJ⟩:=bI (ps:=["_law_rows","_law_stack","_law_cell","_law_words_here","_law_later"]) X G QF (fun _ _ _ _ _ _=>(fD.Y_ fun _ _ _ _ _=>rfl))
 obtain ⟨f24,ZL,ZM⟩:=bI (ps:=["_law_cell","_law_words_here"]) X G QG (fun _ _ _ _ _ _=>(fD.EC fun _ _=>rfl))
 obtain ⟨f25,ZN,ZO⟩:=bI (ps:=["_law_cells","_law_words_here","_law_plan_here"]) X G QH (fun _ _ _ _ _ _=>(fD.Qn fun _ _ _=>rfl))
 obtain ⟨f26,ZP,ZQ⟩:=bI (ps:=["_law_error"]) X G QI (fun _ _ _ _ _ _=>(fD.t5 fun _=>rfl))
 obtain ⟨f27,ZR,ZS⟩:=bI (ps:=["_law_rows"]) X G QJ (fun _ _ _ _ _ _=>(fD.t5 fun _=>rfl))
 obtain ⟨f28,ZT,ZU⟩:=bI (ps:=["_law_rows"]) X G QK (fun _ _ _ _ _ _=>(fD.t5 fun _=>rfl))
 obtain ⟨f29,ZV,ZW⟩:=bI (ps:=["_law_rows","_law_cell","_law_words_here"]) X G QL (fun _ _ _ _ _ _=>(fD.Qn fun _ _ _=>rfl))
 obtain ⟨f30,ZX,ZY⟩:=bI (ps:=["_law_rows","_law_at"]) X G QM (fun _ _ _ _ _ _=>(fD.EC fun _ _=>rfl))
 obtain ⟨f31,ZZ,Z0⟩:=bI (ps:=["_law_rows"]) X G QN (fun _ _ _ _ _ _=>(fD.t5 fun _=>rfl))
 have F:=sj (st:=nA.jO) Qp Qq Qr
 have DL:Df K mg "law" nA.jO ["_law_script"] 394 _:=⟨F,WU,F.binds (fun _ _ _ _ _ _=>Qm fun _=>rfl)⟩
 refine ⟨PySem.W.fnOf "law" "law" (ei nA.jO) (cx nA.jO) (aj nA.jO) .none (.none) (.none) (.str "law_slicewise_k08_calls_refused" 578) none (.ref 393) (.none),fun s v=>.of_eq rfl,fun base _ _=>?_⟩
 have h_:=Ei.xU (P:=l.prog) (w:=w) (base:=base) yk WV (jP X G gf)
 have jt:=Ei.AZ (P:=l.prog) (w:=w) (base:=base) Br WV (jP X G gf)
 have vZ:=fB.Ag (P:=l.prog) (w:=w) (base:=base) D0 M2
 have jB:=fB.GO (P:=l.prog) (w:=w) (base:=base) D1 M2
 have ig:=fB.j8 (P:=l.prog) (w:=w) (base:=base) D2 jB vZ
 have yl:=fB.vi (P:=l.prog) (w:=w) (base:=base) D3 M3 jB
 have EG:=fB.Ai (P:=l.prog) (w:=w) (base:=base) D4 M3 yl ig
 have pW:=fB.ni (P:=l.prog) (w:=w) (base:=base) D5 M3
 have je:=fB.nq (P:=l.prog) (w:=w) (base:=base) D6 M3 ig
 have mB:=fB.kQ (P:=l.prog) (w:=w) (base:=base) D7 M3 je jB
 have EH:=fB.Ak (P:=l.prog) (w:=w) (base:=base) D8 M4 jB ig EG pW mB je
 have v3:=fB.tu (P:=l.prog) (w:=w) (base:=base) D9 MP
 have Bs:=fB.xy (P:=l.prog) (w:=w) (base:=base) Zi MP
 have t8:=fB.qH (P:=l.prog) (w:=w) (base:=base) Zk MP EH
 have pX:=E6.iu (P:=l.prog) (w:=w) (base:=base) Zm MP h_ v3 Bs
 have t9:=fB.qI (P:=l.prog) (w:=w) (base:=base) Zo MP
 have ym:=E6.mU (P:=l.prog) (w:=w) (base:=base) Zq MP
 have qR:=E6.i_ (P:=l.prog) (w:=w) (base:=base) Zs MP jt t9 ym
 have t_:=E6.jN (P:=l.prog) (w:=w) (base:=base) Zu MP t8 pX qR
 have pY:=d7.xP (P:=l.prog) (w:=w) (base:=base) Zw MG
 have ua:=d7.DY (P:=l.prog) (w:=w) (base:=base) Zy MG
 have cF:=d7.j8 (P:=l.prog) (w:=w) (base:=base) ZA
 have yn:=d7.Me (P:=l.prog) (w:=w) (base:=base) ZD cF
 have v5:=d7.Hy (P:=l.prog) (w:=w) (base:=base) ZF MG cF
 have qS:=d7.AV (P:=l.prog) (w:=w) (base:=base) ZH cF yn v5
 have yo:=d7.Ml (P:=l.prog) (w:=w) (base:=base) ZJ MG cF qS
 have v7:=d7.Hz (P:=l.prog) (w:=w) (base:=base) ZM MG
 have pZ:=d7.xS (P:=l.prog) (w:=w) (base:=base) ZO MG cF yo
 have ub:=Hm.DT (P:=l.prog) (w:=w) (base:=base) ZQ MC
 have p_:=Hm.xO (P:=l.prog) (w:=w) (base:=base) ZS MC t_ ub
 have mV:=nA.HC (P:=l.prog) (w:=w) (base:=base) ZU ML
 have qT:=nA.A4 (P:=l.prog) (w:=w) (base:=base) ZW ML mV
 have uc:=nA.Ep (P:=l.prog) (w:=w) (base:=base) ZY ML mV
 have yp:=nA.Mn (P:=l.prog) (w:=w) (base:=base) Z0 ML uc
 exact nA.Mq (P:=l.prog) (w:=w) (base:=base) DL ML pY ua v7 pZ qT yp p_
theorem walk {l:PySem.W.OpenLaw} {q:Program} {loose:List Str} {XP:(Str→Option Value)→Heap→Prop} {d:DefRec} {K:World→PySem.W.Frag} (hn:l.most=some 63) (SS:d.params.defaults=[])
  (F:∀ (w:World) (mg:Str→Option Value) (fa:Addr) (h:Heap),(K w).In h→h.Ns mainGlobals mg→mg d.name=some (.ref fa) →
    ∃ fd:FuncData,(∀ (s:Shared) (u:Value),BindsTo s fd ⟨[u],[]⟩ [("_law_script",u)])∧∀ base:Heap,(K w).In base→base.Ns mainGlobals mg→cN l.prog w (K w) mg base iN 9 fa fd ["_law_script"] (bW (K w) 1 nA.HN)) :
  PySem.W.WalkO q loose XP (fun w h=>(K w).In h) l.row.toRowW d [] (fun f vs=>PySem.call f vs):=by
 refine Rh.uz hn SS fun w s₀ s₁ mg mb fa o pm cd doc a vs ns G Y ho hd iB Oe KC hints hlen hg=>?_
 obtain ⟨fd,hb,hF⟩:=F w mg fa _ Y G.T.g Oe
 exact B6 (CX:=iN) (sp:=bW (K w) 1 nA.HN) (k:=9) Y G.T.g G.T.b G.T.builtins G.T.nolimit hg KC hints (mD hlen (by decide)) ⟨rfl,by decide,by decide⟩ hF hb (fun H _ hS =>
  ⟨[.lst (ns.map .int)],[],[],fun _ r=>r = .vw (.bl true),JB,fun _ z=>(nomatch z),fun _ z=>(nomatch z),dN rfl (aG.cons (by
     simp only [At]
     refine ⟨a,ns.map V.int,rfl,hS.imp (fun z=>⟨z,fun m=>nomatch m⟩) id,?_⟩
     clear hS
     clear hints hlen
     induction ns with
     | nil=>exact aG.nil
     | cons n ns ih=>exact aG.cons bE ih) aG.nil),⟨ns,rfl,hlen,rfl⟩,fun us r hr v H' _ z=>by
     subst hr
     have:=z.1
     simpa only [At] using this⟩) fun _ _ _ z=>z
end fD
open PySem PySem.W PyProof.Rows
set_option maxRecDepth 100000 in
set_option maxHeartbeats 0 in
theorem PySem.Challenge.cw_slicewise_k08_calls_refused_holds : PySem.Challenge.rw_slicewise_k08_calls_refused.Holds := by
 w_on
 refine PySem.W.holds_law fD.Mz fun Mz=>?_
 refine PySem.W.holds_openX (q:=fD.qE) (loose:=fD.pR) (Xt:=HE.Gw fD.qE [] []) (XP:=PySem.W.XL fD.qE []) (d:=fD.dE) (kwd:=[]) (N:=7990) fD.hd.1 (fun s e=>PySem.W.xl_of s (Bool.and_eq_true_iff.mp e).1) PySem.W.XL.keeps (by kernel_rfl) (by kernel_rfl) (by kernel_rfl) (fun s e=>PySem.W.recFacts_of (Bool.and_eq_true_iff.mp e).2) (by kernel_rfl) Mz (by kernel_rfl) ⟨rfl,rfl,rfl,rfl,rfl,by decide +kernel⟩ ?hw ?hc
 (case hw=>w_witness2)
 exact HE.CP (fD.walk (l:=PySem.Challenge.rw_slicewise_k08_calls_refused) (K:=fD.KE) rfl rfl (fun w mg fa h KX G Oe=>fD.MA KX G Oe (fD.hd.2 w)))
