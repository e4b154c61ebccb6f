import PyProof.Rows.All
import Wide.All
import OpenK.AllK
import Wide.FinOn
import Lean
import PyProof.EqAt
import PyProof.EqKinds
import PyProof.TupleCall
import PyProof.NeKinds
import PyProof.Rows.SumAny
import PyProof.StrBlockL
import PyProof.StrBlockI
import PyProof.FitsReplace
import PyProof.Rows.SeqMore
import PyProof.Rows.TupAdd
import PyProof.Draws
import PyProof.ZipIter
import OpenK.ZGo
import PyProof.Rows.SetFrom
import PyProof.SetRoads
import PyProof.ListNew
import PyProof.Rows.SortStr
import PyProof.Rows.SortWalk
import PyProof.IsRules
import KE.KDictLaws
import KE.KIntText
import PyProof.StrLawsTight
import PyProof.StrLawsChain
import PyProof.Rows.StrItems
import PyProof.DictWalks
import PyProof.WalkInts
import PyProof.MeetsStr2
import PySem.Challenge.RW_slicewise_k09_programs_written_and_read
set_option Elab.async false
set_option linter.all false
set_option maxRecDepth 100000
set_option maxHeartbeats 8000000
abbrev bU:=@List.length_map
abbrev d_:=@PySem.Heap.get?_push_of_some
abbrev cn:=@List.mem_cons
abbrev dU:=@List.not_mem_nil
abbrev h9:=@List.getElem?_eq_some_iff
abbrev eW:=@List.mem_cons_self
abbrev fm:=@PySem.W.mg_none_of
abbrev fq:=@List.size_toArray
abbrev g9:=@List.mem_cons_of_mem
abbrev iR:=@List.mem_append_right
abbrev dH:=@Nat.le_refl
abbrev iU:=@List.mem_append_left
abbrev er:=@PySem.Heap.lt_size
abbrev gD:=@List.mem_append
abbrev jO:=@List.mem_of_getElem?
abbrev iS:=@Bool.false_ne_true
abbrev fu:=@List.map_cons
abbrev il:=@Bool.and_eq_true
abbrev n9:=@List.getElem?_eq_getElem
abbrev qc:=@List.getElem?_append_left
abbrev h_:=@PySem.boot_len
abbrev lx:=@List.filterMap_cons
abbrev ly:=@PySem.Heap.get?_push_size
abbrev kS:=@List.length_append
abbrev rY:=@PySem.F.slot_list_append
abbrev rZ:=@PySem.F.type_list_append
abbrev wN:=@List.getElem?_append_right
abbrev ip:=@Nat.ne_of_lt
abbrev n_:=@Nat.lt_of_lt_of_le
abbrev ia:=@Nat.zero_le
abbrev pd:=@Int.emod_lt_of_pos
abbrev oa:=@List.getElem?_map
abbrev iV:=@List.mem_map
abbrev lT:=@Int.emod_nonneg
abbrev kF:=@Nat.le_trans
abbrev r6:=@List.mem_singleton
abbrev uM:=@List.getElem?_set_ne
abbrev pe:=@List.nodup_cons
abbrev uH:=@PySem.F.called_set
abbrev qd:=@List.map_append
abbrev pf:=@PySem.W.mg_of
abbrev z6:=@List.zipWith_cons_cons
abbrev uN:=@List.all_eq_true
abbrev z7:=@List.zipWith_nil_left
abbrev uO:=@PySem.PassesOwn.never
abbrev wO:=@List.length_cons
abbrev r8:=@List.all_cons
abbrev CA:=@List.getElem?_set_self
abbrev z8:=@List.forall_mem_cons
abbrev uP:=@PySem.Heap.size_push
abbrev uI:=@Bool.true_and
abbrev CW:=@List.length_replicate
abbrev Fv:=@List.getElem?_replicate
abbrev CB:=@List.length_range
abbrev GK:=@Int.eq_ofNat_of_zero_le
abbrev x6:=@List.map_map
abbrev z9:=@Bool.false_and
abbrev Fw:=@Array.length_toList
abbrev Fx:=@PySem.mem_of_lookup
abbrev GL:=@List.dropLast_concat
abbrev Fy:=@Int.toNat_natCast
abbrev CY:=@List.append_nil
abbrev z_:=@List.all_nil
abbrev CC:=@Nat.lt_irrefl
abbrev Fz:=@List.length_take
abbrev FC:=@List.lookup_cons
abbrev K_:=@List.mem_or_eq_of_mem_set
abbrev CD:=@Nat.ne_of_gt
abbrev GN:=@List.append_assoc
abbrev K':=@List.getElem?_cons_zero
abbrev Kt:=@List.flatMap_append
abbrev FD:=@List.mem_range
abbrev GO:=@Nat.lt_succ_self
abbrev GP:=@List.getElem_mem
abbrev PK:=@PyProof.Rows.callWith_type1
abbrev Ku:=@List.set_cons_succ
abbrev QI:=@PyProof.Rows.F.plain_set_update_loop
abbrev GQ:=@PySem.W.kia_one
abbrev La:=@PySem.F.slot_dict_get
abbrev PL:=@PySem.F.slot_tuple_iterator_next
abbrev Lb:=@List.getLast?_concat
abbrev Kv:=@List.length_drop
abbrev FH:=@List.map_nil
abbrev Kw:=@List.take_length
abbrev Lc:=@List.replicate_succ
abbrev PM:=@List.filter_eq_self
abbrev QJ:=@PyProof.Rows.slot_tuple_getitem
abbrev PN:=@List.length_eq_zero_iff
abbrev Ld:=@List.filterMap_map
abbrev Kx:=@List.find?_cons
abbrev PQ:=@PySem.Calls.callWith_builtin
abbrev PR:=@PySem.F.slot_str_split
abbrev Le:=@Nat.lt_succ_of_lt
abbrev PU:=@List.length_singleton
abbrev PV:=@Array.getElem?_toList
abbrev PX:=@List.mem_iff_getElem?
abbrev PY:=@Bool.beq_eq_decide_eq
abbrev PZ:=@List.eq_nil_or_concat
abbrev QK:=@List.concat_eq_append
abbrev Kz:=@List.any_cons
abbrev Lf:=@List.mem_filter
abbrev Lg:=@Bool.eq_iff_iff
abbrev QL:=@List.pairwise_iff_getElem
abbrev QM:=@PySem.F.args_tuple_add_2
abbrev KA:=@PySem.Txt.slice_le
abbrev P0:=@List.set_cons_zero
abbrev KC:=@List.all_map
abbrev P4:=@List.mem_replicate
abbrev QN:=@PySem.F.args_str_split_2
abbrev QO:=@PySem.F.entry_tuple_add
abbrev QP:=@PySem.F.plainAttrs_list
abbrev QQ:=@PySem.F.args_dict_get_2
abbrev QR:=@PySem.F.plainAttrs_dict
abbrev QS:=@PySem.F.entry_str_split
abbrev P5:=@List.reverse_cons
abbrev QT:=@PySem.F.slot_tuple_add
abbrev KD:=@Nat.le_succ
abbrev QU:=@List.take_of_length_le
abbrev QV:=@List.range_succ_eq_map
abbrev QW:=@Option.map_eq_some_iff
abbrev QX:=@PySem.F.plainAttrs_str
abbrev QY:=@PySem.F.entry_dict_get
abbrev Lh:=@Bool.false_or
namespace L2
open PySem PySem.Spec PyProof.Rows
abbrev Key:=Sum Int Str
def ph:Key→Value→Bool
 | .inl k,v=>Value.isInt k v
 | .inr x,v=>Value.isStrOf x v
def QZ (w:World):Key→Int
 | .inl k=>hashInt k
 | .inr x=>hashStr w x
theorem bW:∀ {k:Key} {v:Value},ph k v=true→(∃ i t,k=Sum.inl i∧v=Value.int i t)∨(∃ x t,k=Sum.inr x∧v=Value.str x t)
 | .inl i,v,h=>by
   obtain ⟨t,e⟩:=Value.isInt_shape (k:=i) (v:=v) h
   exact .inl ⟨i,t,rfl,e⟩
 | .inr x,v,h=>by
   obtain ⟨t,e⟩:=Value.isStrOf_shape (x:=x) (v:=v) h
   exact .inr ⟨x,t,rfl,e⟩
theorem x8 (i:Int) (t:Tok):ph (.inl i) (.int i t)=true:=by simp [ph,Value.isInt]
theorem x9 (x:Str) (t:Tok):ph (.inr x) (.str x t)=true:=by simp [ph,Value.isStrOf]
theorem GR (a b:Int):decide ((Sum.inl a:Key)=Sum.inl b)=(a == b):=by
 by_cases e:a=b
 · subst e; simp
 · have h:¬ (Sum.inl a:Key)=Sum.inl b:=fun q=>e (Sum.inl.inj q)
   rw [decide_eq_false h]
   exact (beq_eq_false_iff_ne.mpr e).symm
theorem GS (a b:Str):decide ((Sum.inr a:Key)=Sum.inr b)=decide (a=b):=by
 by_cases e:a=b
 · subst e; simp
 · have h:¬ (Sum.inr a:Key)=Sum.inr b:=fun q=>e (Sum.inr.inj q)
   rw [decide_eq_false h,decide_eq_false e]
theorem GU (a:Int) (b:Str):decide ((Sum.inl a:Key)=Sum.inr b)=false:=decide_eq_false (fun q=>nomatch q)
theorem GW (a:Str) (b:Int):decide ((Sum.inr a:Key)=Sum.inl b)=false:=decide_eq_false (fun q=>nomatch q)
def bw (prog:Program) (w:World):PySem.KeyKind prog w Key where
 is:=ph
 hash:=QZ w
 inj:=fun v a b ha hb=>by
  rcases bW ha with ⟨i,t,rfl,rfl⟩ | ⟨x,t,rfl,rfl⟩
  · rcases bW hb with ⟨j,u,rfl,e⟩ | ⟨y,u,rfl,e⟩
    · injection e with e1 _; rw [e1]
    · exact nomatch e
  · rcases bW hb with ⟨j,u,rfl,e⟩ | ⟨y,u,rfl,e⟩
    · exact nomatch e
    · injection e with e1 _; rw [e1]
 byValue:=fun k v h=>by
  rcases bW h with ⟨i,t,rfl,rfl⟩ | ⟨x,t,rfl,rfl⟩ <;> rfl
 pyHash:=fun hv h=>by
  rcases bW hv with ⟨i,t,rfl,rfl⟩ | ⟨x,t,rfl,rfl⟩
  · exact wpAny_pyHash_int h
  · exact wpAny_pyHash_str h
 eqBool:=fun hu hv h=>by
  rcases bW hu with ⟨i,t,rfl,rfl⟩ | ⟨x,t,rfl,rfl⟩
  · rcases bW hv with ⟨j,u,rfl,rfl⟩ | ⟨y,u,rfl,rfl⟩
    · rw [GR] at h; exact wpAny_eqBool_int h
    · rw [GU] at h; exact SeqAt.EqAt.int_str i t y u _ _ _ _ h
  · rcases bW hv with ⟨j,u,rfl,rfl⟩ | ⟨y,u,rfl,rfl⟩
    · rw [GW] at h; exact SeqAt.EqAt.str_int x t j u _ _ _ _ h
    · rw [GS] at h; exact wpAny_eqBool_str h
 «strs»:=fun k x t v h=>by
  rcases bW h with ⟨i,u,rfl,e⟩ | ⟨y,u,rfl,e⟩
  · exact nomatch e
  · injection e with e1 _
    subst e1
    cases v <;> rfl
theorem r9 (prog:Program) (w:World) (i:Int) (t:Tok):(bw prog w).is (.inl i) (.int i t)=true:=x8 i t
theorem r_ (prog:Program) (w:World) (x:Str) (t:Tok):(bw prog w).is (.inr x) (.str x t)=true:=x9 x t
inductive V where
 | bp | bl (b:Bool) | int (i:Int) | str (x:Str) | UO (b:Array UInt8) | UP (b:UInt64) | ref (a:Addr) | ty (n:String)
 deriving DecidableEq
def RelV:V→Value→Prop
 | .bp,u=>u=Value.none
 | .bl b,u=>u=Value.bool b
 | .int i,u=>∃ t,u=Value.int i t
 | .str x,u=>∃ t,u=Value.str x t
 | .UO b,u=>∃ t,u=Value.bytes b t
 | .UP b,u=>∃ t,u=Value.float b t
 | .ref a,u=>u=Value.ref a
 | .ty n,u=>u=Value.type n
abbrev Vals:List V→List Value→Prop:=Paired RelV
theorem Vals.length {xs:List V} {us:List Value} (r:Vals xs us):xs.length=us.length:=Paired.length r
theorem Vals.get:∀ {xs:List V} {us:List Value} {i:Nat} {x:V},Vals xs us→xs[i]?=some x→∃ u,us[i]?=some u∧RelV x u
 | _,_,_,_,.nil,e=>by simp at e
 | _,_,0,_,.cons r _,e=>by simp at e; subst e; exact ⟨_,rfl,r⟩
 | _,_,i+1,x,.cons _ t,e=>by
   obtain ⟨u,h1,h2⟩:=Vals.get (i:=i) (x:=x) t (by simpa using e)
   exact ⟨u,by simpa using h1,h2⟩
theorem Vals.set {x:V} {u:Value} (r:RelV x u):∀ {xs:List V} {us:List Value} (i:Nat),Vals xs us→Vals (xs.set i x) (us.set i u)
 | _,_,_,.nil=>.nil
 | _,_,0,.cons _ t=>.cons r t
 | _,_,i+1,.cons q t=>.cons q (Vals.set r i t)
theorem Vals.append:∀ {xs ys:List V} {us ws:List Value},Vals xs us→Vals ys ws→Vals (xs ++ ys) (us ++ ws)
 | _,_,_,_,.nil,s=>s
 | _,_,_,_,.cons r t,s=>.cons r (Vals.append t s)
theorem Vals.take:∀ {xs:List V} {us:List Value} (n:Nat),Vals xs us→Vals (xs.take n) (us.take n)
 | _,_,0,_=>.nil
 | _,_,_+1,.nil=>.nil
 | _,_,n+1,.cons r t=>.cons r (Vals.take n t)
theorem Vals.drop:∀ {xs:List V} {us:List Value} (n:Nat),Vals xs us→Vals (xs.drop n) (us.drop n)
 | _,_,0,r=>r
 | _,_,_+1,.nil=>.nil
 | _,_,n+1,.cons _ t=>Vals.drop n t
def kT:Option V→Option Value→Prop
 | some v,some u=>RelV v u
 | none,none=>True
 | _,_=>False
def KV {κ:Type}:List (κ×V)→List (κ×Value)→Prop:=Paired fun (p:κ×V) (q:κ×Value)=>p.1=q.1∧RelV p.2 q.2
def kV:Key→V
 | .inl i=>.int i
 | .inr x=>.str x
inductive HO where
 | lst (xs:List V)
 | tup (xs:List V)
 | dK (aU:List (Key×V)) | dT (aU:List (List Key×V))
 | set (S:Int→Bool) (n:Nat)
 | ins (C dx:Addr) (fs:List (Str×V))
 | own (x:Addr)
 | xd (fs:List (Str×V))
 | met (f x:Addr)
 | Q0 (lo hi:Int)
 | sd (o:Obj) (u:HO)
 | GX (ps:Array Value)
 | ext (φ:Heap→Prop)
abbrev Hp:=Addr→Option HO
def upd (H:Hp) (a:Addr) (o:HO):Hp:=fun b=>if b=a then some o else H b
theorem aX {H:Hp} {a:Addr} {o:HO}:upd H a o a=some o:=by unfold upd; rw [if_pos rfl]
theorem aP {H:Hp} {a b:Addr} {o:HO} (h:b≠a):upd H a o b=H b:=by unfold upd; rw [if_neg h]
theorem FJ {H:Hp} {a b:Addr} {o u:HO} (h:H a=some o) (h':H b=some u) (d:o≠u):a≠b:=by
 intro e; subst e; rw [h] at h'; exact d (Option.some.inj h')
theorem bg {H:Hp} {a b:Addr} {o:HO} (h:H a=some o) (h':H b=none):a≠b:=by
 intro e; subst e; rw [h] at h'; cases h'
section
variable (P:Program) (w:World)
def b8 (H:Hp) (h:Heap) (a:Addr):HO→Prop
 | .lst xs=>xs.length≤sizeLine∧∃ (aJ:List Value) (n:Nat),Vals xs aJ∧h.get? a=some { cls:=.type "list",data:=.seq aJ.toArray n }
 | .tup xs=>xs.length≤sizeLine∧∃ aJ:List Value,Vals xs aJ∧IsTup h a aJ.toArray
 | .dK aU=>aU.length≤sizeLine∧(a == sysModules)=false∧∃ vs,KV aU vs∧h.DictOf (bw P w) a vs
 | .dT aU=>aU.length≤sizeLine∧(a == sysModules)=false∧∃ xs:List (List Key×Addr×Value),
    Paired (fun (p:List Key×V) (q:List Key×Addr×Value)=>p.1=q.1∧H q.2.1=some (.tup (p.1.map kV))∧RelV p.2 q.2.2) aU xs ∧
    ∃ o es ep,h.get? a=some o∧o.ExactDict∧o.data = .dict es ep∧es.toList=xs.map (entryOfKey (tupleKind (bw P w)))∧(xs.map (·.1)).Nodup
 | .set S n=>h.SetOf (intKind P w) a S n
 | .ins C dx fs=>H dx=some (.own a)∧fs.length≤1000∧dx≠a∧h.get? a=some (PySem.W.instObj C dx) ∧
    ∃ mA,h.Ns1 dx mA∧(∀ f,kT (fs.lookup f) (mA f))∧PySem.Within mA (fs.map (·.1))
 | .own _=>∃ o,h.get? a=some o
 | .xd fs=>∃ mA,h.Ns1 a mA∧∀ f,kT (fs.lookup f) (mA f)
 | .Q0 lo hi=>∃ t u v,h.get? a=some { cls:=.type "range",data:=.fields #[.int lo t,.int hi u,.int 1 v] }
 | .sd o u=>h.get? a=some o∧b8 H h a u
 | .GX ps=>h.get? a=some { cls:=.none,data:=.fields ps }
 | .met f x=>h.get? a=some (PySem.W.methodObj (.ref f) (.ref x))
 | .ext φ=>φ h∧(∃ o,h.get? a=some o)∧∀ h1 h2:Heap,φ h1→(∀ o,h1.get? a=some o→h2.get? a=some o)→φ h2
def jM (H:Hp) (h:Heap):Prop:=∀ a o,H a=some o→b8 P w H h a o
end
section
variable {P:Program} {w:World} {H H':Hp} {h h':Heap} {a:Addr} {o:HO}
theorem b8.lt (x:b8 P w H h a o):a < h.objs.size:=by
 cases o with
 | lst xs=>obtain ⟨_,_,_,_,e⟩:=x; exact er e
 | tup xs=>obtain ⟨_,_,_,p⟩:=x; exact p.lt
 | dK aU=>obtain ⟨_,_,_,_,o,_,_,e,_⟩:=x; exact er e
 | dT aU=>obtain ⟨_,_,_,_,o,_,_,e,_⟩:=x; exact er e
 | set S n=>obtain ⟨o,_,_,_,e,_⟩:=x; exact er e
 | ins C dx fs=>obtain ⟨_,_,_,e,_⟩:=x; exact er e
 | own y=>obtain ⟨_,e⟩:=x; exact er e
 | xd fs=>obtain ⟨_,⟨_,_,_,e,_⟩,_⟩:=x; exact er e
 | Q0 lo hi=>obtain ⟨_,_,_,e⟩:=x; exact er e
 | sd ob u=>obtain ⟨e,_⟩:=x; exact er e
 | GX ps=>exact er (show h.get? a=some _ from x)
 | met f y=>exact er (show h.get? a=some _ from x)
 | ext φ=>obtain ⟨_,⟨_,e⟩,_⟩:=x; exact er e
theorem Paired.lU {α β:Type} {F G:α→β→Prop}:∀ {l₁:List α} {l₂:List β},Paired F l₁ l₂→(∀ a b,F a b→G a b)→Paired G l₁ l₂
 | _,_,.nil,_=>.nil
 | _,_,.cons r t,f=>.cons (f _ _ r) (Paired.lU t f)
theorem b8.uQ (x:b8 P w H h a o) (k:∀ b u,(b=a∨H b=some (.own a))→h.get? b=some u→h'.get? b=some u)
  (ho:∀ b,H b=some (.own a)→H' b=some (.own a)) (ht:∀ b xs,H b=some (.tup xs)→H' b=some (.tup xs)):b8 P w H' h' a o:=by
 induction o with
 | lst xs=>obtain ⟨z,aJ,n,r,e⟩:=x; exact ⟨z,aJ,n,r,k _ _ (.inl rfl) e⟩
 | tup xs=>obtain ⟨z,aJ,r,ob,e,c⟩:=x; exact ⟨z,aJ,r,ob,k _ _ (.inl rfl) e,c⟩
 | dK aU=>obtain ⟨z,y,vs,r,ob,es,ep,e,c⟩:=x; exact ⟨z,y,vs,r,ob,es,ep,k _ _ (.inl rfl) e,c⟩
 | dT aU =>
   obtain ⟨z,y,xs,r,ob,es,ep,e,c⟩:=x
   exact ⟨z,y,xs,Paired.lU r fun p q z=>⟨z.1,ht _ _ z.2.1,z.2.2⟩,ob,es,ep,k _ _ (.inl rfl) e,c⟩
 | set S n=>obtain ⟨ob,es,ep,t,e,c⟩:=x; exact ⟨ob,es,ep,t,k _ _ (.inl rfl) e,c⟩
 | ins C dx fs =>
   obtain ⟨d,z,ne,e,mA,⟨od,es,ep,e2,c⟩,r⟩:=x
   exact ⟨ho _ d,z,ne,k _ _ (.inl rfl) e,mA,⟨od,es,ep,k _ _ (.inr d) e2,c⟩,r⟩
 | own y=>obtain ⟨ob,e⟩:=x; exact ⟨ob,k _ _ (.inl rfl) e⟩
 | xd fs=>obtain ⟨mA,⟨od,es,ep,e,c⟩,r⟩:=x; exact ⟨mA,⟨od,es,ep,k _ _ (.inl rfl) e,c⟩,r⟩
 | Q0 lo hi=>obtain ⟨t,u,v,e⟩:=x; exact ⟨t,u,v,k _ _ (.inl rfl) e⟩
 | sd ob u ih=>obtain ⟨e,q⟩:=x; exact ⟨k _ _ (.inl rfl) e,ih q⟩
 | GX ps =>
   have e:h.get? a=some { cls:=.none,data:=.fields ps }:=x
   show h'.get? a=some { cls:=.none,data:=.fields ps }
   exact k a _ (.inl rfl) e
 | met f y =>
   have e:h.get? a=some (PySem.W.methodObj (.ref f) (.ref y)):=x
   show h'.get? a=some (PySem.W.methodObj (.ref f) (.ref y))
   exact k a _ (.inl rfl) e
 | ext φ=>obtain ⟨p,⟨o,e⟩,st⟩:=x; exact ⟨st _ _ p fun o q=>k _ _ (.inl rfl) q,⟨o,k _ _ (.inl rfl) e⟩,st⟩
theorem jM.lt (x:jM P w H h) (e:H a=some o):a < h.objs.size:=(x a o e).lt
theorem jM.fresh (x:jM P w H h) (e:h.objs.size≤a):H a=none:=by
 cases q:H a with
 | none=>rfl
 | some u=>exact absurd (n_ (x.lt q) e) (CC _)
theorem jM.kept (x:jM P w H h) (k:∀ b u,h.get? b=some u→h'.get? b=some u):jM P w H h':=fun a o e =>
 (x a o e).uQ (fun b u _ q=>k b u q) (fun _ q=>q) fun _ _ q=>q
theorem jM.laid (x:jM P w H h) (k:∀ b u,h.get? b=some u→h'.get? b=some u) (hp:h.objs.size≤a) (new:b8 P w (upd H a o) h' a o):jM P w (upd H a o) h':=fun b u e=>by
 have hn:=x.fresh hp
 by_cases hb:b=a
 · subst hb; rw [aX] at e; cases e; exact new
 · rw [aP hb] at e
   exact (x b u e).uQ (fun c v _ q=>k c v q) (fun c q=>by rw [aP (bg q hn)]; exact q) fun c xs q=>by rw [aP (bg q hn)]; exact q
end
def Rd (H:Hp) (a:Addr) (u:HO):Prop:=H a=some u∨∃ o,H a=some (.sd o u)
theorem Rd.of {H:Hp} {a:Addr} {u:HO} (h:H a=some u):Rd H a u:=.inl h
theorem Rd.ok {P:Program} {w:World} {H:Hp} {h:Heap} {a:Addr} {u:HO} (r:Rd H a u) (x:jM P w H h):b8 P w H h a u:=by
 rcases r with r | ⟨o,r⟩
 · exact x a u r
 · obtain ⟨_,q⟩:=x a _ r
   exact q
def Li:Option HO→Prop
 | some (.lst _)=>True
 | some (.dK _)=>True
 | some (.dT _)=>True
 | some (.set _ _)=>True
 | some (.ins _ _ _)=>True
 | some (.ext _)=>True
 | _=>False
section
variable {P:Program} {w:World} {H:Hp} {h h':Heap} {x e:Addr} {o':HO}
theorem jM.write (ok:jM P w H h) (mu:Li (H x)) (he:e=x∨H e=some (.own x)) (k:∀ b u,b≠e→h.get? b=some u→h'.get? b=some u) (FK:∃ u,h'.get? e=some u)
  (new:b8 P w (upd H x o') h' x o'):jM P w (upd H x o') h':=fun b u q=>by
 have Lj:∀ c y,H c=some (.own y)→c≠x:=fun c y r z=>by subst z; rw [r] at mu; exact mu
 have Q1:∀ c xs,H c=some (.tup xs)→c≠x:=fun c xs r z=>by subst z; rw [r] at mu; exact mu
 by_cases hb:b=x
 · subst hb; rw [aX] at q; cases q; exact new
 · rw [aP hb] at q
   by_cases CF:b=e
   · have q':H b=some (.own x):=by
      rcases he with z | z
      · exact absurd (CF.trans z) hb
      · rw [CF]; exact z
     rw [q] at q'; cases q'
     obtain ⟨v,hv⟩:=FK
     exact ⟨v,by rw [CF]; exact hv⟩
   · refine (ok b u q).uQ (fun c v hc r=>k c v ?_ r) (fun c r=>by rw [aP (Lj c b r)]; exact r) fun c xs r=>by rw [aP (Q1 c xs r)]; exact r
     rcases hc with rfl | hc
     · exact CF
     · rintro rfl
       rcases he with z | z
       · exact Lj c b hc z
       · rw [hc] at z; cases z; exact hb rfl
end
structure Un (fs ex:List Addr) (H H':Hp) (h h':Heap):Prop where
 keep:∀ b o,h.get? b=some o→H b=none→b∉fs→b∉ex→h'.get? b=some o
 slot:∀ b o,h.get? b=some o→H b=none→b∈fs→b∉ex→∃ sl,h'.get? b=some { o with slots:=sl }
 free:∀ b o,h.get? b=some o→H b=none→b∉ex→H' b=none
 there:∀ b o,h.get? b=some o→b∉ex→∃ o',h'.get? b=some o'
 kU:∀ b xs,H b=some (.tup xs)→H' b=some (.tup xs)
 jP:∀ b o u,H b=some (.sd o u)→H' b=some (.sd o u)
 kW:∀ b ps,H b=some (.GX ps)→∃ more,H' b=some (.GX (ps ++ more))
section
variable {fs Ll ex Q2:List Addr} {H H1 H2:Hp} {h h1 h2 h':Heap} {a x e:Addr} {o:HO}
theorem Un.any (u:Un fs ex H H1 h h1) {b:Addr} {ob:Obj} (q:h.get? b=some ob) (n:H b=none) (hx:b∉ex):∃ sl,h1.get? b=some { ob with slots:=sl }:=by
 by_cases hb:b∈fs
 · exact u.slot b ob q n hb hx
 · exact ⟨ob.slots,u.keep b ob q n hb hx⟩
theorem Un.trans (a:Un fs ex H H1 h h1) (b:Un fs ex H1 H2 h1 h2):Un fs ex H H2 h h2 where
 keep:=fun c ob q n hc hx=>b.keep c ob (a.keep c ob q n hc hx) (a.free c ob q n hx) hc hx
 slot:=fun c ob q n hc hx=>by
  obtain ⟨sl,e1⟩:=a.slot c ob q n hc hx
  obtain ⟨Q3,e2⟩:=b.slot c _ e1 (a.free c ob q n hx) hc hx
  exact ⟨Q3,e2⟩
 free:=fun c ob q n hx=>by
  obtain ⟨o',e1⟩:=a.there c ob q hx
  exact b.free c o' e1 (a.free c ob q n hx) hx
 there:=fun c ob q hx=>by
  obtain ⟨o',e1⟩:=a.there c ob q hx
  exact b.there c o' e1 hx
 kU:=fun c xs q=>b.kU c xs (a.kU c xs q)
 jP:=fun c ob xs q=>b.jP c ob xs (a.jP c ob xs q)
 kW:=fun c ps q=>by
  obtain ⟨m1,e1⟩:=a.kW c ps q
  obtain ⟨m2,e2⟩:=b.kW c _ e1
  exact ⟨m1 ++ m2,by rw [e2,Array.append_assoc]⟩
theorem Un.kept (k:∀ b u,h.get? b=some u→h'.get? b=some u):Un fs ex H H h h' :=
 ⟨fun b ob q _ _ _=>k b ob q,fun b ob q _ _ _=>⟨ob.slots,k b ob q⟩,fun _ _ _ n _=>n,fun b ob q _=>⟨ob,k b ob q⟩,fun _ _ q=>q,fun _ _ _ q=>q,fun _ ps q=>⟨#[],by rw [q]; simp⟩⟩
theorem Un.refl:Un fs ex H H h h:=Un.kept fun _ _ q=>q
theorem Un.laid (k:∀ b u,h.get? b=some u→h'.get? b=some u) (hp:h.objs.size≤a) (hn:H a=none):Un fs ex H (upd H a o) h h' where
 keep:=fun b u q _ _ _=>k b u q
 slot:=fun b u q _ _ _=>⟨u.slots,k b u q⟩
 free:=fun b u q n _=>by rw [aP (ip (n_ (er q) hp))]; exact n
 there:=fun b u q _=>⟨u,k b u q⟩
 kU:=fun b xs q=>by rw [aP (bg q hn)]; exact q
 jP:=fun b u xs q=>by rw [aP (bg q hn)]; exact q
 kW:=fun b ps q=>⟨#[],by rw [aP (bg q hn),q]; simp⟩
theorem Un.write (mu:Li (H x)) (he:e=x∨H e=some (.own x)) (k:∀ b u,b≠e→h.get? b=some u→h'.get? b=some u) (FK:∃ u,h'.get? e=some u):Un fs ex H (upd H x o) h h':=by
 have hx:∀ b,H b=none→b≠x:=fun b n z=>by subst z; rw [n] at mu; exact mu
 have hb:∀ b,H b=none→b≠e:=fun b n z=>by
  subst z
  rcases he with r | r
  · exact hx b n r
  · rw [n] at r; cases r
 have hm:∀ b u,H b=some u→¬ Li (some u)→b≠x:=fun b u q nm z=>by subst z; rw [q] at mu; exact nm mu
 refine ⟨fun b u q n _ _=>k b u (hb b n) q,fun b u q n _ _=>⟨u.slots,k b u (hb b n) q⟩,fun b u q n _=>by rw [aP (hx b n)]; exact n,fun b u q _=>?_,
  fun b xs q=>by rw [aP (hm b _ q fun z=>z)]; exact q,fun b u xs q=>by rw [aP (hm b _ q fun z=>z)]; exact q,fun b ps q=>⟨#[],by rw [aP (hm b _ q fun z=>z),q]; simp⟩⟩
 by_cases CF:b=e
 · subst CF; exact FK
 · exact ⟨u,k b u CF q⟩
theorem Un.mono (u:Un fs ex H H1 h h1) (hs:∀ b∈fs,b∈Ll) (hx:∀ b∈ex,b∈Q2):Un Ll Q2 H H1 h h1 :=
 ⟨fun b ob q n hb he=>u.keep b ob q n (fun z=>hb (hs b z)) fun z=>he (hx b z),fun _ _ q n _ he=>u.any q n fun z=>he (hx _ z),fun b ob q n he=>u.free b ob q n fun z=>he (hx b z),fun b ob q he=>u.there b ob q fun z=>he (hx b z),u.kU,u.jP,u.kW⟩
end
def P6 (h:Heap) (H:Hp):List Addr:=(List.range h.objs.size).filter fun a=>(H a).isSome
def qe (h:Heap) (H:Hp):Heap:=PySem.W.hideAll h (P6 h H)
theorem x_ (h:Heap) (H:Hp):(qe h H).objs.size=h.objs.size:=PySem.W.hideAll_size _ _
theorem Aa {h:Heap} {H:Hp} {b:Addr} {o:Obj} (e:h.get? b=some o) (n:H b=none):(qe h H).get? b=some o :=
 PySem.W.hideAll_get _ e fun hm=>by
  have q:(H b).isSome=true:=(Lf.mp hm).2
  rw [n] at q; simp at q
theorem CZ {h:Heap} {H:Hp} {b:Addr} {o:Obj} (e:(qe h H).get? b=some o):h.get? b=some o∧H b=none:=by
 have e':h.get? b=some o:=PySem.W.of_hideAll (P6 h H) e
 refine ⟨e',?_⟩
 cases q:H b with
 | none=>rfl
 | some x =>
   have hm:b∈P6 h H:=Lf.mpr ⟨FD.mpr (er e'),by simp [q]⟩
   have z:(qe h H).get? b=none:=PySem.W.hideAll_none (P6 h H) hm
   rw [z] at e; cases e
def C0 (g h:Heap) (L:Addr):List (Addr×Obj):=(List.range h.objs.size).filterMap fun a=>if a=L∨(g.get? a).isSome=true then none else (h.get? a).map fun o=>(a,o)
def rest (g h:Heap) (L d:Addr):List (Addr×Obj):=(C0 g h L).filter fun p=>decide (p.1≠d)
structure Mod (K:PySem.W.Frag) (mg:Str→Option Value) (base:Heap):Prop where
 P7:K.In base
 glob:base.Ns mainGlobals mg
 blt:∃ mb,base.Ns builtinsNs mb∧∀ x:Str,x≠"__name__"→mb x=bootBuiltins x
 nolimit:base.NoLimit
structure Cx where
 prog:Program
 w:World
 K:PySem.W.Frag
 mg:Str→Option Value
 base:Heap
 A:Around
 N:List Str
 s₀:Shared
 H₀:Hp
 env:Env
 outer:List Env
 stack:List Env
 ex:List Addr
 fn:Str→Bool
 calm:Bool
 pn:List (Addr×Obj)
 xe:Value→Shared→Prop
def zM (l:List Env):List Addr:=l.filterMap (·.frame)
abbrev Cx.fs (X:Cx):List Addr:=zM X.outer
def uJ (sc:Scope) (x:Str):Prop:=sc.names.lookup x=some .local∨sc.names.lookup x=some .cell∨sc.names.lookup x=some .free
def Loc (sc:Scope) (x:Str):Prop:=sc.names.lookup x=some .local∨sc.names.lookup x=some .cell
def Look (env:Env) (h:Heap) (m:Str→Option Value) (x:Str) (u:Value):Prop :=
 (env.kindOf x=some .local∧m x=some u)∨((env.kindOf x=some .cell∨env.kindOf x=some .free)∧∃ c,env.cells.lookup x=some c∧h.IsCell c (some u))
structure Cx.Ok (X:Cx):Prop where
 mod:Mod X.K X.mg X.base
 kind:X.env.scope.kind = .function
 glob:X.env.globals=mainGlobals
 blt:X.env.builtins=builtinsNs
 above:X.s₀.heap.objs.size≤X.env.locals
 inj:∀ x y c,X.env.cells.lookup x=some c→X.env.cells.lookup y=some c→x=y
 has:∀ x,(X.env.kindOf x=some .cell∨X.env.kindOf x=some .free)→∃ c,X.env.cells.lookup x=some c
 Lm:∀ x c,X.fn x=true→X.env.cells.lookup x=some c→X.s₀.heap.objs.size≤c
 hd:X.calm=true→X.A.handled=none
 frames:X.A.frames=some X.stack
 P8:X.stack=X.outer∨(X.stack=X.env :: X.outer∧X.env.frame=some X.env.locals)
 UQ:∀ b∈X.ex,b≠X.env.locals∧∀ x c,X.env.cells.lookup x=some c→c≠b
 bs:∀ b o,X.base.get? b=some o→X.s₀.heap.get? b=some o∧X.H₀ b=none
 CG:X.base.objs.size≤X.s₀.heap.objs.size
 Ab:∀ b o,X.base.get? b=some o→b∉X.ex
 C1:∀ b∈X.ex,b∉X.fs
 kX:X.s₀.heap.FunFrames X.base X.outer
 GY:∀ b∈X.fs,X.H₀ b=none
structure Inv (X:Cx) (pins:List (Addr×Obj)) (σ:List (Option V)) (H:Hp) (s:Shared):Prop where
 ok:X.Ok
 os:s.os=X.s₀.os
 bare:AllBare s.gens
 base:Un X.fs X.ex X.H₀ H X.s₀.heap s.heap
 loc:∃ m,s.heap.Ns X.env.locals m∧∀ (i:Nat) (x:Str) (v:V),X.N[i]?=some x→σ[i]?=some (some v)→uJ X.env.scope x→∃ u,RelV v u∧Look X.env s.heap m x u
 cell:∀ x c,X.env.cells.lookup x=some c→∃ v,s.heap.IsCell c v
 free:H X.env.locals=none
 gE:∀ x c,X.env.cells.lookup x=some c→H c=none
 pin:∀ p∈X.pn ++ pins,s.heap.get? p.1=some p.2∧H p.1=none∧p.1≠X.env.locals∧p.1∉X.fs∧∀ v,p.2.data≠.cell v
 bA:jM X.prog X.w H s.heap
 len:σ.length=X.N.length
section
variable {X:Cx} {pins:List (Addr×Obj)} {σ:List (Option V)} {H H':Hp} {s:Shared} {h':Heap}
theorem Cx.Ok.Q4 (ok:X.Ok) {b:Addr} {o:Obj} (e:X.base.get? b=some o):b∉X.fs:=fun hb=>by
 have:=(ok.kX.mem hb).1
 rw [e] at this; cases this
theorem Inv.bs (I:Inv X pins σ H s):∀ b o,X.base.get? b=some o→s.heap.get? b=some o∧H b=none:=fun b o e =>
 ⟨I.base.keep b o (I.ok.bs b o e).1 (I.ok.bs b o e).2 (I.ok.Q4 e) (I.ok.Ab b o e),I.base.free b o (I.ok.bs b o e).1 (I.ok.bs b o e).2 (I.ok.Ab b o e)⟩
theorem Inv.bk (I:Inv X pins σ H s):∀ b o,X.base.get? b=some o→s.heap.get? b=some o:=fun b o e=>(I.bs b o e).1
theorem Inv.mod (I:Inv X pins σ H s):Mod X.K X.mg X.base:=I.ok.mod
theorem Inv.uR (I:Inv X pins σ H s):X.K.In s.heap:=I.ok.mod.P7.keeps I.bk
theorem Inv.nolimit (I:Inv X pins σ H s):s.heap.NoLimit:=I.ok.mod.nolimit.keeps I.bk
theorem Inv.fr (I:Inv X pins σ H s):∃ m,Fr X.base X.env.locals s.heap m :=
 let ⟨m,hn,_⟩:=I.loc
 ⟨m,hn,I.bk,kF I.ok.CG I.ok.above⟩
theorem Inv.lt (I:Inv X pins σ H s):X.env.locals < s.heap.objs.size:=let ⟨_,hn,_⟩:=I.loc; hn.lt
theorem Inv.sz (I:Inv X pins σ H s):X.s₀.heap.objs.size≤s.heap.objs.size:=kF I.ok.above (Nat.le_of_lt I.lt)
theorem Inv.Q5 (I:Inv X pins σ H s) {a:Addr} (h:s.heap.objs.size≤a):a∉X.fs:=fun hb=>by
 obtain ⟨_,o,ho,_⟩:=I.ok.kX.mem hb
 exact absurd (n_ (er ho) (kF I.sz h)) (CC _)
theorem Inv.C2 (I:Inv X pins σ H s):∀ x c,X.env.cells.lookup x=some c→c≠X.env.locals:=fun x c e z=>by
 obtain ⟨v,o,ho,hd⟩:=I.cell x c e
 obtain ⟨m,⟨o',es,ep,uS,Q6,_⟩,_⟩:=I.loc
 rw [z,uS] at ho; cases ho; rw [Q6] at hd; cases hd
theorem Inv.kX (I:Inv X pins σ H s):s.heap.FunFrames X.base X.outer:=by
 have all:∀ (l:List Env),(∀ b∈zM l,b∈X.fs)→X.s₀.heap.FunFrames X.base l→s.heap.FunFrames X.base l:=by
  intro l
  induction l with
  | nil=>intro _ _; trivial
  | cons env r ih =>
    intro hs hl
    obtain ⟨hk,⟨L,o,hf,hn,ho,hd⟩,hr⟩:=hl
    have hL:L∈X.fs:=hs L (by unfold zM; rw [lx,hf]; exact eW)
    obtain ⟨sl,e⟩:=I.base.slot L o ho (I.ok.GY L hL) hL fun z=>I.ok.C1 L z hL
    exact ⟨hk,⟨L,_,hf,hn,e,hd⟩,ih (fun b hb=>hs b (by unfold zM; rw [lx,hf]; exact g9 _ hb)) hr⟩
 exact all X.outer (fun _ hb=>hb) I.ok.kX
theorem Inv.stack (I:Inv X pins σ H s):s.heap.FunFrames X.base X.stack:=by
 rcases I.ok.P8 with e | ⟨e,hf⟩
 · rw [e]; exact I.kX
 · rw [e]
   obtain ⟨m,hn,_⟩:=I.loc
   refine .cons (by rw [I.ok.kind]; decide) hf hn ?_ I.kX
   exact Heap.get?_none_of_le (kF I.ok.CG I.ok.above)
theorem Inv.uT (I:Inv X pins σ H s):∀ b∈zM X.stack,b∈X.env.locals :: X.fs:=fun b hb=>by
 rcases I.ok.P8 with e | ⟨e,hf⟩
 · rw [e] at hb; exact g9 _ hb
 · rw [e] at hb
   unfold zM at hb
   rw [lx,hf] at hb
   exact hb
theorem Inv.wQ (I:Inv X pins σ H s):∀ b∈zM X.stack,H b=none:=fun b hb=>by
 rcases cn.mp (I.uT b hb) with e | hb
 · rw [e]; exact I.free
 · obtain ⟨_,o,ho,_⟩:=I.ok.kX.mem hb
   exact I.base.free b o ho (I.ok.GY b hb) fun z=>I.ok.C1 b z hb
theorem Inv.step {g':Array GenState} {t':Nat} {d':Drawn} {ch:List Addr} (I:Inv X pins σ H s)
  (zN:∀ b∈ch,(b∈X.ex∨X.s₀.heap.objs.size≤b)∧b≠X.env.locals∧(∀ x c,X.env.cells.lookup x=some c→c≠b)∧∀ p∈X.pn ++ pins,p.1≠b)
  (keep:∀ b o,b≠X.env.locals→b∉X.fs→b∉ch→s.heap.get? b=some o→H b=none→h'.get? b=some o)
  (slot:∀ b o,b≠X.env.locals→b∈X.fs→b∉ch→s.heap.get? b=some o→H b=none→∃ sl,h'.get? b=some { o with slots:=sl }) (free:∀ b o,b∉ch→s.heap.get? b=some o→H b=none→H' b=none)
  (there:∀ b o,b∉ch→s.heap.get? b=some o→∃ o',h'.get? b=some o')
  (kU:∀ b xs,H b=some (.tup xs)→H' b=some (.tup xs)) (jP:∀ b o u,H b=some (.sd o u)→H' b=some (.sd o u)) (kW:∀ b ps,H b=some (.GX ps)→∃ more,H' b=some (.GX (ps ++ more)))
  (ns:∀ m,s.heap.Ns X.env.locals m→h'.Ns X.env.locals m) (bA:jM X.prog X.w H' h') (hg:AllBare g') :
  Inv X pins σ H' { s with heap:=h',gens:=g',drawn:=d',toks:=t' }:=by
 have UR:∀ b o,X.s₀.heap.get? b=some o→b≠X.env.locals:=fun b o e=>ip (n_ (er e) I.ok.above)
 have P9:∀ b o,X.s₀.heap.get? b=some o→b∉X.ex→b∉ch:=fun b o e hx hb=>by
  rcases (zN b hb).1 with z | z
  · exact hx z
  · exact absurd (n_ (er e) z) (CC _)
 have cellK:∀ x c,X.env.cells.lookup x=some c→∀ v,s.heap.IsCell c v→h'.IsCell c v:=fun x c e v ⟨o,ho,hd⟩=>by
  have Ac:c∉ch:=fun z=>(zN c z).2.2.1 x c e rfl
  by_cases hc:c∈X.fs
  · obtain ⟨sl,q⟩:=slot c o (I.C2 x c e) hc Ac ho (I.gE x c e)
    exact ⟨_,q,hd⟩
  · exact ⟨o,keep c o (I.C2 x c e) hc Ac ho (I.gE x c e),hd⟩
 refine ⟨I.ok,I.os,hg,⟨fun b o e n hb hx=>?_,fun b o e n hb hx=>?_,fun b o e n hx=>?_,fun b o e hx=>?_,fun b xs e=>kU b xs (I.base.kU b xs e),fun b o xs e=>jP b o xs (I.base.jP b o xs e),fun b ps e=>?_⟩,?_,fun x c e=>?_,?_,fun x c e=>?_,fun p hp=>?_,bA,I.len⟩
 · exact keep b o (UR b o e) hb (P9 b o e hx) (I.base.keep b o e n hb hx) (I.base.free b o e n hx)
 · obtain ⟨sl,e1⟩:=I.base.slot b o e n hb hx
   obtain ⟨Q3,e2⟩:=slot b _ (UR b o e) hb (P9 b o e hx) e1 (I.base.free b o e n hx)
   exact ⟨Q3,e2⟩
 · obtain ⟨o',e1⟩:=I.base.there b o e hx
   exact free b o' (P9 b o e hx) e1 (I.base.free b o e n hx)
 · obtain ⟨o',e1⟩:=I.base.there b o e hx
   exact there b o' (P9 b o e hx) e1
 · obtain ⟨m1,e1⟩:=I.base.kW b ps e
   obtain ⟨m2,e2⟩:=kW b _ e1
   exact ⟨m1 ++ m2,by rw [e2,Array.append_assoc]⟩
 · obtain ⟨m,hn,hl⟩:=I.loc
   refine ⟨m,ns m hn,fun i x v e1 e2 e3=>?_⟩
   obtain ⟨u,r,l⟩:=hl i x v e1 e2 e3
   refine ⟨u,r,?_⟩
   rcases l with l | ⟨k,c,e,z⟩
   · exact .inl l
   · exact .inr ⟨k,c,e,cellK x c e _ z⟩
 · obtain ⟨v,z⟩:=I.cell x c e
   exact ⟨v,cellK x c e v z⟩
 · obtain ⟨m,⟨o,_,_,ho,_⟩,_⟩:=I.loc
   exact free _ o (fun z=>(zN _ z).2.1 rfl) ho I.free
 · obtain ⟨v,o,ho,hd⟩:=I.cell x c e
   exact free c o (fun z=>(zN c z).2.2.1 x c e rfl) ho (I.gE x c e)
 · obtain ⟨e,n,ne,nf,d⟩:=I.pin p hp
   have Ac:p.1∉ch:=fun z=>(zN p.1 z).2.2.2 p hp rfl
   exact ⟨keep p.1 p.2 ne nf Ac e n,free p.1 p.2 Ac e n,ne,nf,d⟩
theorem Inv.un {t':Nat} (I:Inv X pins σ H s) (u:Un X.fs [] H H' s.heap h') (bA:jM X.prog X.w H' h'):Inv X pins σ H' { s with heap:=h',toks:=t' }:=by
 obtain ⟨m,⟨o,es,ep,ho,r⟩,_⟩:=id I.loc
 obtain ⟨sl,hL⟩:=u.any ho I.free (by simp)
 exact I.step (g':=s.gens) (d':=s.drawn) (ch:=[]) (fun _ z=>nomatch z) (fun b o _ hb _ e n=>u.keep b o e n hb (by simp)) (fun b o _ hb _ e n=>u.slot b o e n hb (by simp)) (fun b o _ e n=>u.free b o e n (by simp)) (fun b o _ e=>u.there b o e (by simp)) u.kU u.jP u.kW (fun m' hm=>by
  obtain ⟨o',Q7,Q8,uS,r'⟩:=hm
  rw [ho] at uS; cases uS
  exact ⟨_,Q7,Q8,hL,r'⟩) bA I.bare
theorem Inv.call {g':Array GenState} {t':Nat} {d':Drawn} {ch:List Addr} (I:Inv X pins σ H s) (u:Un (zM X.stack) ch H H' s.heap h') (bA:jM X.prog X.w H' h') (hg:AllBare g')
  (zN:∀ b∈ch,(b∈X.ex∨X.s₀.heap.objs.size≤b)∧b≠X.env.locals∧(∀ x c,X.env.cells.lookup x=some c→c≠b)∧∀ p∈X.pn ++ pins,p.1≠b) :
  Inv X pins σ H' { s with heap:=h',gens:=g',drawn:=d',toks:=t' }:=by
 obtain ⟨m,⟨o,es,ep,ho,r⟩,_⟩:=id I.loc
 obtain ⟨sl,hL⟩:=u.any ho I.free fun z=>(zN _ z).2.1 rfl
 exact I.step (ch:=ch) zN (fun b o hL hb hc e n=>u.keep b o e n (fun z=>(cn.mp (I.uT b z)).elim hL hb) hc) (fun b o _ _ hc e n=>u.any e n hc) (fun b o hc e n=>u.free b o e n hc) (fun b o hc e=>u.there b o e hc) u.kU u.jP u.kW (fun m' hm=>by
  obtain ⟨o',Q7,Q8,uS,r'⟩:=hm
  rw [ho] at uS; cases uS
  exact ⟨_,Q7,Q8,hL,r'⟩) bA hg
theorem Inv.turned {t':Nat} {it:Addr} (I:Inv X pins σ H s) (k:∀ b o,b≠it→s.heap.get? b=some o→h'.get? b=some o) (hn:H it=none) (hL:it≠X.env.locals)
  (h1:it∈X.ex∨X.s₀.heap.objs.size≤it) (h2:∀ x c,X.env.cells.lookup x=some c→c≠it) (h3:∀ p∈X.pn ++ pins,p.1≠it):Inv X pins σ H { s with heap:=h',toks:=t' }:=by
 have US:∀ b u,H b=some u→b≠it:=fun b u e z=>by rw [z,hn] at e; cases e
 refine I.step (g':=s.gens) (d':=s.drawn) (ch:=[it]) (fun b hb=>?_) (fun b o _ _ hc e _=>k b o (fun z=>hc (by simp [z])) e) (fun b o _ _ hc e _=>⟨o.slots,k b o (fun z=>hc (by simp [z])) e⟩) (fun _ _ _ _ n=>n)
  (fun b o hc e=>⟨o,k b o (fun z=>hc (by simp [z])) e⟩) (fun _ _ e=>e) (fun _ _ _ e=>e) (fun b ps e=>⟨#[],by rw [e]; simp⟩) (fun m hm=>?_) (fun b u e=>?_) I.bare
 · have e:b=it:=by simpa using hb
   subst e
   exact ⟨h1,hL,h2,h3⟩
 · obtain ⟨o,es,ep,ho,r⟩:=hm
   exact ⟨o,es,ep,k _ o (Ne.symm hL) ho,r⟩
 · refine (I.bA b u e).uQ (fun c v hc q=>k c v ?_ q) (fun _ q=>q) fun _ _ q=>q
   rcases hc with z | z
   · rw [z]; exact US b u e
   · exact US c _ z
theorem Inv.tok (I:Inv X pins σ H s) (t:Nat):Inv X pins σ H { s with toks:=t }:=I.un (h':=s.heap) (t':=t) Un.refl I.bA
theorem Inv.kept {t':Nat} (I:Inv X pins σ H s) (k:∀ b u,s.heap.get? b=some u→h'.get? b=some u):Inv X pins σ H { s with heap:=h',toks:=t' }:=I.un (Un.kept k) (I.bA.kept k)
theorem Inv.laid {a:Addr} {o:HO} {t':Nat} (I:Inv X pins σ H s) (k:∀ b u,s.heap.get? b=some u→h'.get? b=some u) (hp:s.heap.objs.size≤a) (new:b8 X.prog X.w (upd H a o) h' a o) :
 Inv X pins σ (upd H a o) { s with heap:=h',toks:=t' }:=I.un (Un.laid k hp (I.bA.fresh hp)) (I.bA.laid k hp new)
theorem Inv.write {x e:Addr} {o:HO} {t':Nat} (I:Inv X pins σ H s) (mu:Li (H x)) (he:e=x∨H e=some (.own x)) (k:∀ b u,b≠e→s.heap.get? b=some u→h'.get? b=some u) (FK:∃ u,h'.get? e=some u)
 (new:b8 X.prog X.w (upd H x o) h' x o):Inv X pins σ (upd H x o) { s with heap:=h',toks:=t' }:=I.un (Un.write mu he k FK) (I.bA.write mu he k FK new)
theorem Inv.weak {σ':List (Option V)} (I:Inv X pins σ H s) (hl:σ'.length=σ.length) (w:∀ (i:Nat) v,σ'[i]?=some (some v)→σ[i]?=some (some v)):Inv X pins σ' H s :=
 ⟨I.ok,I.os,I.bare,I.base,let ⟨m,hn,UT⟩:=I.loc; ⟨m,hn,fun i x v e1 e2 e3=>UT i x v e1 (w i v e2) e3⟩,I.cell,I.free,I.gE,I.pin,I.bA,hl.trans I.len⟩
theorem Inv.wR {wU:List (Addr×Obj)} (I:Inv X pins σ H s) (h:∀ p∈wU,s.heap.get? p.1=some p.2∧H p.1=none∧p.1≠X.env.locals∧p.1∉X.fs∧∀ v,p.2.data≠.cell v):Inv X wU σ H s :=
 ⟨I.ok,I.os,I.bare,I.base,I.loc,I.cell,I.free,I.gE,fun p hp=>(gD.mp hp).elim (fun z=>I.pin p (iU _ z)) (h p),I.bA,I.len⟩
theorem se {N:List Str} (hN:N.Nodup) {i j:Nat} {x:Str} (a:N[i]?=some x) (b:N[j]?=some x):i=j:=by
 obtain ⟨h1,e1⟩:=h9.mp a
 obtain ⟨h2,e2⟩:=h9.mp b
 exact (List.getElem_inj hN).mp (e1.trans e2.symm)
theorem pj {M:Model} {A:Around} {E:Value→Shared→Prop} {i:Nat} {x:Str} {v:V} {u:Value} {Q:Unit→Shared→Prop} (I:Inv X pins σ H s) (hN:X.N.Nodup) (hi:X.N[i]?=some x) (hx:Loc X.env.scope x) (r:RelV v u)
  (h:∀ s',Inv X pins (σ.set i (some v)) H s'→(∃ a,Heap.SameBut a s.heap s'.heap∧(a=X.env.locals∨X.env.cells.lookup x=some a))→Q () s') (hf:X.fn x=true∨X.env.scope.names.lookup x=some .local:=by first | exact .inl rfl | exact .inr rfl | assumption):wpAny M A (storeName X.env x u) Q E s:=by
 obtain ⟨m,hn,hl⟩:=id I.loc
 have Q9:(X.env.scope.kind == .class || (X.env.scope.kind == .module && X.env.locals != X.env.globals))=false:=by rw [I.ok.kind]; rfl
 have UU:i < σ.length:=by rw [I.len]; exact (h9.mp hi).1
 have C2:=I.C2
 have tracked:∀ {a:Addr} {h':Heap},(∃ o,s.heap.get? a=some o∧H a=none)→Heap.SameBut a s.heap h'→jM X.prog X.w H h':=fun {a h'} ha hs b ob e=>by
  obtain ⟨_,_,FL⟩:=ha
  refine (I.bA b ob e).uQ (fun c w' hc q=>(hs.2 c ?_).trans q) (fun _ q=>q) fun _ _ q=>q
  rintro rfl
  rcases hc with rfl | hc
  · rw [FL] at e; cases e
  · rw [FL] at hc; cases hc
 rcases hx with hk | hk
 · refine wpAny_storeName_local hk hn (fun h' UW hs=>?_) Q9
   obtain ⟨oL,_,_,V1,_⟩:=id hn
   refine h _ ⟨I.ok,I.os,I.bare,⟨fun b o e n hb hx=>?_,fun b o e n hb hx=>?_,I.base.free,fun b o e hx=>?_,I.base.kU,I.base.jP,I.base.kW⟩,⟨_,UW,fun j y v' e1 e2 e3=>?_⟩,fun y c e=>?_,I.free,I.gE,fun p hp=>?_,tracked ⟨oL,V1,I.free⟩ hs,by simpa using I.len⟩ ⟨_,hs,.inl rfl⟩
   · exact (hs.2 b (ip (n_ (er e) I.ok.above))).trans (I.base.keep b o e n hb hx)
   · obtain ⟨sl,e1⟩:=I.base.slot b o e n hb hx
     exact ⟨sl,(hs.2 b (ip (n_ (er e) I.ok.above))).trans e1⟩
   · obtain ⟨o',e1⟩:=I.base.there b o e hx
     exact ⟨o',(hs.2 b (ip (n_ (er e) I.ok.above))).trans e1⟩
   · by_cases hj:j=i
     · subst hj
       rw [hi] at e1; cases e1
       rw [CA UU] at e2
       cases e2
       exact ⟨u,r,.inl ⟨hk,by simp⟩⟩
     · rw [uM (Ne.symm hj)] at e2
       obtain ⟨u',r',q⟩:=hl j y v' e1 e2 e3
       refine ⟨u',r',?_⟩
       rcases q with ⟨k,e⟩ | ⟨k,c,e,z⟩
       · refine .inl ⟨k,?_⟩
         have:y≠x:=fun e=>hj (se hN e1 (e▸hi))
         simp [this,e]
       · exact .inr ⟨k,c,e,z.sameBut hs (C2 y c e)⟩
   · obtain ⟨w',z⟩:=I.cell y c e
     exact ⟨w',z.sameBut hs (C2 y c e)⟩
   · obtain ⟨e,n,ne,nf,d⟩:=I.pin p hp
     exact ⟨(hs.2 p.1 ne).trans e,n,ne,nf,d⟩
 · have Q_:X.fn x=true:=by
    rcases hf with z | z
    · exact z
    · rw [z] at hk; cases hk
   obtain ⟨c,hc⟩:=I.ok.has x (.inl hk)
   obtain ⟨w',z⟩:=I.cell x c hc
   refine wpAny_storeName_cell I.ok.kind hk hc z (fun h' Ln hs=>?_)
   obtain ⟨oc,UX,Ra⟩:=id z
   refine h { s with heap:=h' } ⟨I.ok,I.os,I.bare,⟨fun b o e n hb hx=>?_,fun b o e n hb hx=>?_,I.base.free,fun b o e hx=>?_,I.base.kU,I.base.jP,I.base.kW⟩,⟨m,hn.sameBut hs (Ne.symm (C2 x c hc)),fun j y v' e1 e2 e3=>?_⟩,fun y c' e=>?_,I.free,I.gE,fun p hp=>?_,tracked ⟨oc,UX,I.gE x c hc⟩ hs,by simpa using I.len⟩ ⟨c,hs,.inr hc⟩
   · exact (hs.2 b (ip (n_ (er e) (I.ok.Lm x c Q_ hc)))).trans (I.base.keep b o e n hb hx)
   · obtain ⟨sl,e1⟩:=I.base.slot b o e n hb hx
     exact ⟨sl,(hs.2 b (ip (n_ (er e) (I.ok.Lm x c Q_ hc)))).trans e1⟩
   · obtain ⟨o',e1⟩:=I.base.there b o e hx
     exact ⟨o',(hs.2 b (ip (n_ (er e) (I.ok.Lm x c Q_ hc)))).trans e1⟩
   · by_cases hj:j=i
     · subst hj
       rw [hi] at e1; cases e1
       rw [CA UU] at e2
       cases e2
       exact ⟨u,r,.inr ⟨.inl hk,c,hc,Ln⟩⟩
     · rw [uM (Ne.symm hj)] at e2
       obtain ⟨u',r',q⟩:=hl j y v' e1 e2 e3
       refine ⟨u',r',?_⟩
       rcases q with q | ⟨k,c',e,z'⟩
       · exact .inl q
       · refine .inr ⟨k,c',e,z'.sameBut hs ?_⟩
         rintro rfl
         exact hj (se hN e1 (I.ok.inj _ _ _ e hc▸hi))
   · by_cases UY:c'=c
     · subst UY; exact ⟨_,Ln⟩
     · obtain ⟨w2,z2⟩:=I.cell y c' e
       exact ⟨w2,z2.sameBut hs UY⟩
   · obtain ⟨e,n,ne,nf,d⟩:=I.pin p hp
     refine ⟨(hs.2 p.1 ?_).trans e,n,ne,nf,d⟩
     intro q
     rw [q,UX] at e
     have q':oc=p.2:=Option.some.inj e
     exact d w' (by rw [← q']; exact Ra)
theorem lV {M:Model} {A:Around} {E:Value→Shared→Prop} {i:Nat} {x:Str} {v:V} {u:Value} {Q:Unit→Shared→Prop} (I:Inv X pins σ H s) (hN:X.N.Nodup) (hi:X.N[i]?=some x) (hx:Loc X.env.scope x) (r:RelV v u)
  (h:∀ s',Inv X pins (σ.set i (some v)) H s'→Q () s') (hf:X.fn x=true∨X.env.scope.names.lookup x=some .local:=by first | exact .inl rfl | exact .inr rfl | assumption):wpAny M A (storeName X.env x u) Q E s :=
 pj I hN hi hx r (fun s' I' _=>h s' I') hf
theorem Inv.Lo {s':Shared} {ch:List Addr} (I:Inv X pins σ H s) (ho:s'.os=s.os) (u:Un (zM X.stack) ch H H' s.heap s'.heap) (bA:jM X.prog X.w H' s'.heap) (hg:AllBare s'.gens)
  (zN:∀ b∈ch,(b∈X.ex∨X.s₀.heap.objs.size≤b)∧b≠X.env.locals∧(∀ x c,X.env.cells.lookup x=some c→c≠b)∧∀ p∈X.pn ++ pins,p.1≠b):Inv X pins σ H' s':=by
 obtain ⟨h',g',d',t',o'⟩:=s'
 have e:o'=s.os:=ho
 subst e
 exact I.call (g':=g') (t':=t') (d':=d') u bA hg zN
end
abbrev XK:=Value→Option Addr→Hp→Prop
abbrev St:=List (Option V)
abbrev VK:=V→Hp→Prop
abbrev TE:=St→Hp→VK→Prop
abbrev TT:=St→Hp→(Bool→Hp→Prop)→Prop
abbrev TA:=St→Hp→(List V→Hp→Prop)→Prop
structure Ends where
 nx:St→Hp→Prop
 rt:VK
 bk:St→Hp→Prop:=fun _ _=>False
 ct:St→Hp→Prop:=fun _ _=>False
abbrev TS:=Ends→St→Hp→Prop
def EP (X:Cx) (pins:List (Addr×Obj)) (σ:St) (Q:VK) (u:Value) (s':Shared):Prop:=∃ v H',Inv X pins σ H' s'∧RelV v u∧Q v H'
def TP (X:Cx) (pins:List (Addr×Obj)) (σ:St) (Q:Bool→Hp→Prop) (b:Bool) (s':Shared):Prop:=∃ H',Inv X pins σ H' s'∧Q b H'
def AP (X:Cx) (pins:List (Addr×Obj)) (σ:St) (Q:List V→Hp→Prop) (us:List Value) (s':Shared):Prop:=∃ vs H',Inv X pins σ H' s'∧Vals vs us∧Q vs H'
def SP (X:Cx) (pins:List (Addr×Obj)) (D:Ends) (f:Flow) (s':Shared):Prop :=
 match f with
 | .next=>∃ σ' H',Inv X pins σ' H' s'∧D.nx σ' H'
 | .brk=>∃ σ' H',Inv X pins σ' H' s'∧D.bk σ' H'
 | .cont=>∃ σ' H',Inv X pins σ' H' s'∧D.ct σ' H'
 | .ret u=>∃ v σ' H',Inv X pins σ' H' s'∧RelV v u∧D.rt v H'
def PE (X:Cx) (e:Expr) (t:TE):Prop :=
 ∀ (pins:List (Addr×Obj)) (s:Shared) (σ:St) (H:Hp) (Q:VK),Inv X pins σ H s→t σ H Q→wpAny (model X.prog X.w) X.A (eval e X.env) (EP X pins σ Q) X.xe s
def PT (X:Cx) (e:Expr) (t:TT):Prop :=
 ∀ (pins:List (Addr×Obj)) (s:Shared) (σ:St) (H:Hp) (Q:Bool→Hp→Prop),Inv X pins σ H s→t σ H Q→wpAny (model X.prog X.w) X.A (isTrue e X.env (eval e X.env)) (TP X pins σ Q) X.xe s
def PW (X:Cx) (e:Expr) (t:TT):Prop :=
 ∀ (whole:Sem Value) (pins:List (Addr×Obj)) (s:Shared) (σ:St) (H:Hp) (Q:Bool→Hp→Prop),Inv X pins σ H s→t σ H Q→wpAny (model X.prog X.w) X.A (isTrue e X.env whole) (TP X pins σ Q) X.xe s
theorem PW.pt {X:Cx} {e:Expr} {t:TT} (h:PW X e t):PT X e t:=h _
def PA (X:Cx) (es:List Expr) (t:TA):Prop :=
 ∀ (pos:Pos) (pins:List (Addr×Obj)) (s:Shared) (σ:St) (H:Hp) (Q:List V→Hp→Prop),Inv X pins σ H s→t σ H Q→wpAny (model X.prog X.w) X.A (spliced (backTo pos (starEach es X.env))) (AP X pins σ Q) X.xe s
def PS (X:Cx) (st:Stmt) (t:TS):Prop :=
 ∀ (pins:List (Addr×Obj)) (s:Shared) (σ:St) (H:Hp) (D:Ends),Inv X pins σ H s→t D σ H→wpAny (model X.prog X.w) X.A (exec st X.env) (SP X pins D) X.xe s
def lz (X:Cx) (st:List Stmt) (t:TS):Prop :=
 ∀ (pins:List (Addr×Obj)) (s:Shared) (σ:St) (H:Hp) (D:Ends),Inv X pins σ H s→t D σ H→wpAny (model X.prog X.w) X.A (execs st X.env) (SP X pins D) X.xe s
theorem cf {α:Type} {t:Sem α} {Q Q':α→Shared→Prop} {M:Model} {A:Around} {E:Value→Shared→Prop} {s:Shared} (h:wpAny M A t Q E s) (hQ:∀ a s,Q a s→Q' a s):wpAny M A t Q' E s:=wpAny_mono h hQ fun _ _ x=>x
section
variable {X:Cx}
def Lp (i:Nat):TE:=fun σ H Q=>∃ v,σ[i]?=some (some v)∧Q v H
def tC (v:V):TE:=fun _ H Q=>Q v H
theorem eA {i:Nat} {x:Str} {pos:Pos} (hN:X.N[i]?=some x) (hv:uJ X.env.scope x) (hd:(x == ("__debug__" : Str))=false:=by decide) (iq:(x == ("__classdict__" : Str))=false:=by decide):PE X (.Name x pos) (Lp i):=by
 intro pins s σ H Q I h
 obtain ⟨v,e,h⟩:=h
 obtain ⟨m,hn,hl⟩:=I.loc
 obtain ⟨u,r,l⟩:=hl i x v hN e hv
 have fin:EP X pins σ Q u s:=⟨v,H,I,r,h⟩
 rcases l with ⟨hk,hm⟩ | ⟨hk,c,hc,wV⟩
 · exact wpAny_Name (wpAny_loadName_local I.ok.kind hk hn hm fin) hd
 · rcases hk with hk | hk
   · exact wpAny_Name (wpAny_loadName_cell I.ok.kind hk hc wV fin) hd
   · exact wpAny_Name (wpAny_loadName_free I.ok.kind hk hc wV fin iq) hd
theorem GZ {i j pos}:PE X (.Constant (.int i) j pos) (tC (.int i)):=fun _ _ _ H _ I h=>wpAny_Constant_int ⟨.int i,H,I.tok _,⟨_,rfl⟩,h⟩
theorem Lq {b j pos}:PE X (.Constant (.bool b) j pos) (tC (.bl b)):=fun _ _ _ H _ I h=>Constant_bool ⟨.bl b,H,I,rfl,h⟩
theorem G0 {j pos}:PE X (.Constant .none j pos) (tC .bp):=fun _ _ _ H _ I h=>Constant_none ⟨.bp,H,I,rfl,h⟩
theorem G1 {x j pos}:PE X (.Constant (.str x) j pos) (tC (.str x)):=fun _ _ _ H _ I h=>Calls.Constant_str ⟨.str x,H,I.tok _,⟨_,rfl⟩,h⟩
def Gl (X:Cx) (x:Str):Prop:=X.env.kindOf x=some .globalImplicit
theorem wW {E:Value→Shared→Prop} {pins:List (Addr×Obj)} {s:Shared} {σ:St} {H:Hp} {x:Str} {u:Value} {pos:Pos} {Q:Value→Shared→Prop} (I:Inv X pins σ H s) (hg:Gl X x) (hm:X.mg x=some u) (h:Q u s)
  (hd:(x == ("__debug__" : Str))=false:=by decide):wpAny (model X.prog X.w) X.A (eval (.Name x pos) X.env) Q E s :=
 Calls.Name_function_global I.ok.kind hg (Calls.loadGlobal_global (by rw [I.ok.glob]; exact I.mod.glob.keeps I.bk) hm h) hd
theorem jQ {E:Value→Shared→Prop} {pins:List (Addr×Obj)} {s:Shared} {σ:St} {H:Hp} {x:Str} {u:Value} {pos:Pos} {Q:Value→Shared→Prop} (I:Inv X pins σ H s) (hg:Gl X x) (hm:X.mg x=none) (hv:bootBuiltins x=some u) (h:Q u s)
  (hn:x≠"__name__":=by decide) (hd:(x == ("__debug__" : Str))=false:=by decide):wpAny (model X.prog X.w) X.A (eval (.Name x pos) X.env) Q E s:=by
 obtain ⟨mb,h1,h2⟩:=I.mod.blt
 exact Calls.Name_function_global I.ok.kind hg (Calls.loadGlobal_builtin (by rw [I.ok.glob]; exact I.mod.glob.keeps I.bk) hm (by rw [I.ok.blt]; exact h1.keeps I.bk) ((h2 x hn).trans hv) h) hd
theorem wX {x:Str} {v:V} {u:Value} {pos:Pos} (hg:Gl X x) (hm:X.mg x=some u) (r:RelV v u) (hd:(x == ("__debug__" : Str))=false:=by decide):PE X (.Name x pos) (tC v) :=
 fun _ _ _ H _ I h=>wW I hg hm ⟨v,H,I,r,h⟩ hd
theorem C3 {x:Str} {v:V} {u:Value} {pos:Pos} (hg:Gl X x) (hm:X.mg x=none) (hv:bootBuiltins x=some u) (r:RelV v u) (hn:x≠"__name__":=by decide) (hd:(x == ("__debug__" : Str))=false:=by decide):PE X (.Name x pos) (tC v) :=
 fun _ _ _ H _ I h=>jQ I hg hm hv ⟨v,H,I,r,h⟩ hn hd
variable {a b:Expr} {ta tb:TE} {pos:Pos}
def tB (t:TE):TT:=fun σ H Q=>t σ H fun x H1=>∃ c,x = .bl c∧Q c H1
theorem G2 {e:Expr} {t:TE} (h:PE X e t) (he:∀ whole,isTrue e X.env whole=(do let v ← whole; standAt e.pos; holding [v] (truthy v)):=by intro _; rfl):PT X e (tB t):=by
 intro pins s σ H Q I hw
 refine isTrue_plain (cf (h pins s σ H _ I hw) fun v s1 ⟨x,H1,I1,r1,q1⟩=>?_) (he _)
 obtain ⟨d,rfl,q⟩:=q1
 cases r1
 exact wpAny_truthy_bool ⟨H1,I1,q⟩
variable {tA Lr:TT} {rest:List Expr}
def Rb (t u:TT):TT:=fun σ H Q=>t σ H fun c H1=>if c=true then u σ H1 Q else Q false H1
def V2 (t u:TT):TT:=fun σ H Q=>t σ H fun c H1=>if c=true then Q true H1 else u σ H1 Q
def Rc (t:TT):TT:=fun σ H Q=>t σ H fun c H1=>Q (!c) H1
theorem pw_and1 (ha:PT X a tA):PW X (.BoolOp .And [a] pos) tA:=by
 intro wh pins s σ H Q I h
 refine isTrue_and (cf (ha pins s σ H Q I h) fun c s1 e=>?_)
 cases c with
 | true=>exact isTrue_and_nil e
 | false=>exact e
theorem pw_or1 (ha:PT X a tA):PW X (.BoolOp .Or [a] pos) tA:=by
 intro wh pins s σ H Q I h
 refine isTrue_or (cf (ha pins s σ H Q I h) fun c s1 e=>?_)
 cases c with
 | false=>exact isTrue_or_nil e
 | true=>exact e
theorem pw_and (ha:PT X a tA) (hb:PW X (.BoolOp .And (b :: rest) pos) Lr):PW X (.BoolOp .And (a :: b :: rest) pos) (Rb tA Lr):=by
 intro wh pins s σ H Q I h
 refine isTrue_and (cf (ha pins s σ H _ I h) fun c s1 ⟨H1,I1,q1⟩=>?_)
 cases c with
 | true=>exact hb wh pins s1 σ H1 Q I1 q1
 | false=>exact ⟨H1,I1,q1⟩
theorem pw_or (ha:PT X a tA) (hb:PW X (.BoolOp .Or (b :: rest) pos) Lr):PW X (.BoolOp .Or (a :: b :: rest) pos) (V2 tA Lr):=by
 intro wh pins s σ H Q I h
 refine isTrue_or (cf (ha pins s σ H _ I h) fun c s1 ⟨H1,I1,q1⟩=>?_)
 cases c with
 | true=>exact ⟨H1,I1,q1⟩
 | false=>exact hb wh pins s1 σ H1 Q I1 q1
theorem G3 (ha:PT X a tA):PT X (.UnaryOp .Not a pos) (Rc tA):=by
 intro pins s σ H Q I h
 exact isTrue_not (ha pins s σ H (fun c H1=>Q (!c) H1) I h)
def Ls (ta tb:TE):TE:=fun σ H Q=>ta σ H fun x H1=>∃ c,x = .bl c∧if c=true then tb σ H1 Q else Q (.bl false) H1
def Rf (ta tb:TE):TE:=fun σ H Q=>ta σ H fun x H1=>∃ c,x = .bl c∧if c=true then Q (.bl true) H1 else tb σ H1 Q
def Lu (ta:TE):TE:=fun σ H Q=>ta σ H fun x H1=>∃ c,x = .bl c∧Q (.bl (!c)) H1
theorem G4 {op} {t:TE} (h:PE X a t):PE X (.BoolOp op [a] pos) t:=fun pins s σ H Q I hw=>BoolOp_one (h pins s σ H Q I hw)
theorem G5 (ha:PE X a ta) (hb:PE X (.BoolOp .And (b :: rest) pos) tb):PE X (.BoolOp .And (a :: b :: rest) pos) (Ls ta tb):=by
 intro pins s σ H Q I h
 refine BoolOp_and (cf (ha pins s σ H _ I h) fun v s1 ⟨x,H1,I1,r1,q1⟩=>?_)
 obtain ⟨c,rfl,q1⟩:=q1
 cases r1
 refine wpAny_truthy_bool ?_
 cases c with
 | true=>exact hb pins s1 σ H1 Q I1 q1
 | false=>exact ⟨.bl false,H1,I1,rfl,q1⟩
theorem Lw (ha:PE X a ta) (hb:PE X (.BoolOp .Or (b :: rest) pos) tb):PE X (.BoolOp .Or (a :: b :: rest) pos) (Rf ta tb):=by
 intro pins s σ H Q I h
 refine BoolOp_or (cf (ha pins s σ H _ I h) fun v s1 ⟨x,H1,I1,r1,q1⟩=>?_)
 obtain ⟨c,rfl,q1⟩:=q1
 cases r1
 refine wpAny_truthy_bool ?_
 cases c with
 | false=>exact hb pins s1 σ H1 Q I1 q1
 | true=>exact ⟨.bl true,H1,I1,rfl,q1⟩
theorem G6 (ha:PE X a ta):PE X (.UnaryOp .Not a pos) (Lu ta):=by
 intro pins s σ H Q I h
 refine UnaryOp_ (cf (ha pins s σ H _ I h) fun v s1 ⟨x,H1,I1,r1,q1⟩=>?_)
 obtain ⟨c,rfl,q1⟩:=q1
 cases r1
 exact not_of (wpAny_truthy_bool ⟨.bl (!c),H1,I1,rfl,q1⟩)
def V3 (t:TT) (ta tb:TE):TE:=fun σ H Q=>t σ H fun c H1=>if c=true then ta σ H1 Q else tb σ H1 Q
theorem Ad {c:Expr} (hc:PT X c tA) (ha:PE X a ta) (hb:PE X b tb):PE X (.IfExp c a b pos) (V3 tA ta tb):=by
 intro pins s σ H Q I h
 refine wpAny_IfExp (cf (hc pins s σ H _ I h) fun d s1 ⟨H1,I1,q1⟩=>?_)
 cases d with
 | true=>exact ha pins s1 σ H1 Q I1 q1
 | false=>exact hb pins s1 σ H1 Q I1 q1
end
def eB (K:PySem.W.Frag) (H:Hp) (a:Addr) (xs:List V):Prop :=
 Rd H a (.lst xs) ∨
  ∃ (o:Obj) (aJ:Array Value) (n:Nat),K.lookup a=some o∧o.cls = .type "list"∧o.dict=none∧o.data = .seq aJ n∧aJ.size≤sizeLine∧Vals xs aJ.toList
def dq (K:PySem.W.Frag) (H:Hp) (a:Addr) (xs:List V):Prop :=
 Rd H a (.tup xs) ∨
  ∃ (o:Obj) (aJ:Array Value) (n:Nat),K.lookup a=some o∧o.cls = .type "tuple"∧o.data = .seq aJ n∧aJ.size≤sizeLine∧Vals xs aJ.toList
def Rg:Value→Option V
 | .none=>some .bp
 | .bool b=>some (.bl b)
 | .int i _=>some (.int i)
 | .str x _=>some (.str x)
 | .bytes b _=>some (.UO b)
 | .float b _=>some (.UP b)
 | .ref a=>some (.ref a)
 | .type n=>some (.ty n)
 | _=>none
theorem RelV.abs {x:V} {u:Value} (r:RelV x u):Rg u=some x:=by
 cases x with
 | bp=>cases r; rfl
 | bl _=>cases r; rfl
 | ref _=>cases r; rfl
 | ty _=>cases r; rfl
 | _=>obtain ⟨t,rfl⟩:=r; rfl
theorem RelV.inj {x y:V} {u:Value} (r:RelV x u) (q:RelV y u):x=y:=Option.some.inj (r.abs.symm.trans q.abs)
theorem Vals.inj:∀ {xs ys:List V} {us:List Value},Vals xs us→Vals ys us→xs=ys
 | _,_,_,.nil,.nil=>rfl
 | _,_,_,.cons r t,.cons r' t'=>by rw [r.inj r',Vals.inj t t']
section
variable {X:Cx} {pins:List (Addr×Obj)} {σ:St} {H:Hp} {s:Shared} {a:Addr} {xs ys:List V}
theorem eB.of {K:PySem.W.Frag} (h:H a=some (.lst xs)):eB K H a xs:=.inl (.inl h)
theorem dq.of {K:PySem.W.Frag} (h:H a=some (.tup xs)):dq K H a xs:=.inl (.inl h)
theorem Inv.list (I:Inv X pins σ H s) (h:eB X.K H a xs):∃ aJ:List Value,Vals xs aJ∧PlainL s.heap a aJ.toArray∧xs.length≤sizeLine:=by
 rcases h with h | ⟨o,aJ,n,hk,hc,hd,hs,hz,r⟩
 · obtain ⟨z,aJ,n,r,e⟩:=h.ok I.bA
   exact ⟨aJ,r,⟨_,n,e,rfl,rfl,rfl⟩,z⟩
 · refine ⟨aJ.toList,r,⟨o,n,I.uR a o hk,hc,hd,by simpa using hs⟩,?_⟩
   have e:=r.length
   simp only [Fw] at e
   omega
theorem Inv.tuple (I:Inv X pins σ H s) (h:dq X.K H a xs):∃ aJ:List Value,Vals xs aJ∧IsTup s.heap a aJ.toArray∧xs.length≤sizeLine:=by
 rcases h with h | ⟨o,aJ,n,hk,hc,hs,hz,r⟩
 · obtain ⟨z,aJ,r,p⟩:=h.ok I.bA
   exact ⟨aJ,r,p,z⟩
 · refine ⟨aJ.toList,r,⟨o,I.uR a o hk,hc,n,by simpa using hs⟩,?_⟩
   have e:=r.length
   simp only [Fw] at e
   omega
theorem Inv.iW (I:Inv X pins σ H s) (h:eB X.K H a xs) (h':eB X.K H a ys):xs=ys:=by
 obtain ⟨aJ,r,⟨o,n,e,_,_,d⟩,_⟩:=I.list h
 obtain ⟨its',r',⟨o',n',e',_,_,d'⟩,_⟩:=I.list h'
 rw [e] at e'; cases e'
 rw [d] at d'
 injection d' with d1 _
 have:aJ=its':=by simpa using congrArg Array.toList d1
 subst this
 exact r.inj r'
theorem Inv.jR (I:Inv X pins σ H s) (h:dq X.K H a xs) (h':dq X.K H a ys):xs=ys:=by
 obtain ⟨aJ,r,⟨o,e,_,n,d⟩,_⟩:=I.tuple h
 obtain ⟨its',r',⟨o',e',_,n',d'⟩,_⟩:=I.tuple h'
 rw [e] at e'; cases e'
 rw [d] at d'
 injection d' with d1 _
 have:aJ=its':=by simpa using congrArg Array.toList d1
 subst this
 exact r.inj r'
end
abbrev Cx.kY (X:Cx) (E:Value→Shared→Prop):Cx:={ X with xe:=E }
abbrev Cx.r0 (X:Cx):Cx:=X.kY fun _ _=>False
theorem Cx.Ok.kY {X:Cx} (ok:X.Ok) (E:Value→Shared→Prop):(X.kY E).Ok :=
 ⟨ok.mod,ok.kind,ok.glob,ok.blt,ok.above,ok.inj,ok.has,ok.Lm,ok.hd,ok.frames,ok.P8,ok.UQ,ok.bs,ok.CG,ok.Ab,ok.C1,ok.kX,ok.GY⟩
theorem Cx.Ok.gF {X:Cx} {E:Value→Shared→Prop} (ok:(X.kY E).Ok):X.Ok :=
 ⟨ok.mod,ok.kind,ok.glob,ok.blt,ok.above,ok.inj,ok.has,ok.Lm,ok.hd,ok.frames,ok.P8,ok.UQ,ok.bs,ok.CG,ok.Ab,ok.C1,ok.kX,ok.GY⟩
section
variable {X:Cx} {pins:List (Addr×Obj)} {σ:St} {H:Hp} {s:Shared} {E:Value→Shared→Prop}
theorem Inv.kY (I:Inv X pins σ H s) (E:Value→Shared→Prop):Inv (X.kY E) pins σ H s:=⟨I.ok.kY E,I.os,I.bare,I.base,I.loc,I.cell,I.free,I.gE,I.pin,I.bA,I.len⟩
theorem Inv.gF (I:Inv (X.kY E) pins σ H s):Inv X pins σ H s:=⟨I.ok.gF,I.os,I.bare,I.base,I.loc,I.cell,I.free,I.gE,I.pin,I.bA,I.len⟩
theorem SP.gF {D:Ends} {f:Flow} {s':Shared} (h:SP (X.kY E) pins D f s'):SP X pins D f s':=by
 cases f with
 | ret u=>obtain ⟨v,σ',H',I,r,q⟩:=h; exact ⟨v,σ',H',I.gF,r,q⟩
 | _=>obtain ⟨σ',H',I,q⟩:=h; exact ⟨σ',H',I.gF,q⟩
theorem PE.r0 {e:Expr} {t:TE} (h:PE X.r0 e t):PE X e t:=fun pins s σ H Q I hw =>
 wpAny_mono (h pins s σ H Q (I.kY _) hw) (fun _ _ ⟨v,H',I',r,q⟩=>⟨v,H',I'.gF,r,q⟩) fun _ _ z=>False.elim z
theorem PT.r0 {e:Expr} {t:TT} (h:PT X.r0 e t):PT X e t:=fun pins s σ H Q I hw =>
 wpAny_mono (h pins s σ H Q (I.kY _) hw) (fun _ _ ⟨H',I',q⟩=>⟨H',I'.gF,q⟩) fun _ _ z=>False.elim z
theorem lz.r0 {st:List Stmt} {t:TS} (h:lz X.r0 st t):lz X st t:=fun pins s σ H D I hw =>
 wpAny_mono (h pins s σ H D (I.kY _) hw) (fun _ _ q=>q.gF) fun _ _ z=>False.elim z
end
section
variable {X:Cx} {st:Stmt} {rest:List Stmt} {t u:TS} {e:Expr} {te:TE} {pos:Pos}
def Lx:TS:=fun D σ H=>D.nx σ H
def Rh (t u:TS):TS:=fun D σ H=>t { D with nx:=u D } σ H
theorem C4:lz X [] Lx:=fun _ _ σ H _ I h=>wpAny_execs_nil ⟨σ,H,I,h⟩
theorem Ae (h1:PS X st t) (h2:lz X rest u):lz X (st :: rest) (Rh t u):=by
 intro pins s σ H D I h
 refine wpAny_execs_cons (cf (h1 pins s σ H { D with nx:=u D } I h) fun f s1 q=>?_)
 cases f with
 | next =>
   obtain ⟨σ',H',I',q⟩:=q
   exact h2 pins s1 σ' H' D I' q
 | ret v=>exact q
 | _=>exact q
theorem C5 (h1:PS X st t):lz X [st] t:=by
 intro pins s σ H D I h
 refine wpAny_execs_cons (cf (h1 pins s σ H D I h) fun f s1 q=>?_)
 cases f with
 | next=>exact wpAny_execs_nil q
 | ret v=>exact q
 | _=>exact q
theorem Inv.quiet {pins:List (Addr×Obj)} {σ:St} {H:Hp} {s:Shared} (I:Inv X pins σ H s):interactive X.env=false:=by simp [interactive,I.ok.kind]
def Ly (te:TE):TS:=fun D σ H=>te σ H fun _ H1=>D.nx σ H1
theorem C6 (he:PE X e te) (hs:swapsWith e none pos.line X.env=pure false:=by rfl):PS X (.Expr e pos) (Ly te):=by
 intro pins s σ H D I h
 exact wpAny_Expr_any (cf (he pins s σ H _ I h) fun v s1 ⟨x,H1,I1,r1,q1⟩=>⟨σ,H1,I1,q1⟩) I.quiet hs
def Ri (te:TE):TS:=fun D σ H=>te σ H D.rt
theorem G7 (he:PE X e te):PS X (.Return (some e) pos) (Ri te):=by
 intro pins s σ H D I h
 exact wpAny_Return_some (cf (he pins s σ H _ I h) fun v s1 ⟨x,H1,I1,r1,q1⟩=>⟨x,σ,H1,I1,r1,q1⟩)
def Rj (c:TT) (t u:TS):TS:=fun D σ H=>c σ H fun b H1=>if b=true then t D σ H1 else u D σ H1
theorem Lz {c:Expr} {a b:List Stmt} {tc:TT} (hc:PT X c tc) (ha:lz X a t) (hb:lz X b u):PS X (.If c a b pos) (Rj tc t u):=by
 intro pins s σ H D I h
 refine wpAny_If (cf (hc pins s σ H _ I h) fun d s1 ⟨H1,I1,q1⟩=>?_)
 cases d with
 | true=>exact ha pins s1 σ H1 D I1 q1
 | false=>exact hb pins s1 σ H1 D I1 q1
end
abbrev TG:=V→St→Hp→(St→Hp→Prop)→Prop
abbrev C7:=List V→St→Hp→(St→Hp→Prop)→Prop
def PG (X:Cx) (target:Expr) (t:TG):Prop :=
 ∀ (pins:List (Addr×Obj)) (s:Shared) (σ:St) (H:Hp) (v:V) (u:Value) (Q:St→Hp→Prop),Inv X pins σ H s→RelV v u→t v σ H Q →
  wpAny (model X.prog X.w) X.A (assign target X.env u) (fun _ s'=>∃ σ' H',Inv X pins σ' H' s'∧Q σ' H') X.xe s
def Af (X:Cx) (ts:List Expr) (t:C7):Prop :=
 ∀ (pins:List (Addr×Obj)) (s:Shared) (σ:St) (H:Hp) (vs:List V) (us:List Value) (Q:St→Hp→Prop),Inv X pins σ H s→Vals vs us→t vs σ H Q →
  wpAny (model X.prog X.w) X.A (assignInOrder ((assignEach ts X.env).map (·.2)) us) (fun _ s'=>∃ σ' H',Inv X pins σ' H' s'∧Q σ' H') X.xe s
abbrev G8:=V→V→V→Hp→(Hp→Prop)→Prop
def LA (X:Cx) (t:G8):Prop :=
 ∀ (pins:List (Addr×Obj)) (s:Shared) (σ:St) (H:Hp) (o i v:V) (ov iv u:Value) (Q:Hp→Prop),Inv X pins σ H s→RelV o ov→RelV i iv→RelV v u→t o i v H Q →
  wpAny (model X.prog X.w) X.A (setItem ov iv u) (fun _ s'=>∃ H',Inv X pins σ H' s'∧Q H') X.xe s
abbrev Rk:=V→V→Hp→VK→Prop
def V4 (X:Cx) (op:Operator) (t:Rk):Prop :=
 ∀ (pins:List (Addr×Obj)) (s:Shared) (σ:St) (H:Hp) (x y:V) (v u:Value) (Q:VK),Inv X pins σ H s→RelV x v→RelV y u→t x y H Q →
  wpAny (model X.prog X.w) X.A (inplaceOp op v u) (EP X pins σ Q) X.xe s
section
variable {X:Cx} {pos:Pos}
def gu (i:Nat):TG:=fun v σ H Q=>Q (σ.set i (some v)) H
theorem C8 {i:Nat} {x:Str} (hN:X.N.Nodup) (hi:X.N[i]?=some x) (hx:Loc X.env.scope x) (hf:X.fn x=true∨X.env.scope.names.lookup x=some .local:=by first | exact .inl rfl | exact .inr rfl | assumption):PG X (.Name x pos) (gu i):=by
 intro pins s σ H v u Q I r h
 exact wpAny_assign_Name (lV I hN hi hx r (fun s' I'=>⟨_,H,I',h⟩) hf)
def Rl:C7:=fun vs σ H Q=>vs=[]∧Q σ H
def LB (t:TG) (u:C7):C7:=fun vs σ H Q=>∃ v r,vs=v :: r∧t v σ H fun σ' H'=>u r σ' H' Q
theorem C9:Af X [] Rl:=by
 intro pins s σ H vs us Q I r h
 obtain ⟨e,h⟩:=h
 subst e
 cases r
 exact assignInOrder_nil ⟨σ,H,I,h⟩
theorem Ag {e:Expr} {es:List Expr} {t:TG} {u:C7} (h1:PG X e t) (h2:Af X es u)
  (hs:(assignEach (e :: es) X.env).map (·.2)=assign e X.env :: (assignEach es X.env).map (·.2):=by rfl):Af X (e :: es) (LB t u):=by
 intro pins s σ H vs us Q I r h
 obtain ⟨v,vr,e1,h⟩:=h
 subst e1
 cases r with
 | cons r rr =>
   rw [hs]
   refine assignInOrder_cons (cf (h1 pins s σ H _ _ _ I r h) fun _ s1 ⟨σ1,H1,I1,q1⟩=>?_)
   exact h2 pins s1 σ1 H1 _ _ Q I1 rr q1
def Rm (K:PySem.W.Frag) (n:Nat) (t:C7):TG:=fun v σ H Q=>∃ a xs,v = .ref a∧dq K H a xs∧xs.length=n∧t xs σ H Q
theorem G9 {es:List Expr} {k:Nat} {t:C7} {n:Nat} (hc:X.calm=true) (h:Af X es t)
  (hn:(assignEach es X.env).length=n:=by rfl) (C_:(assignEach es X.env).findIdx? (·.1)=none:=by rfl):PG X (.Tuple es k pos) (Rm X.K n t):=by
 intro pins s σ H v u Q I r hw
 obtain ⟨a,xs,e1,hq,hl,hw⟩:=hw
 subst e1
 cases r
 obtain ⟨aJ,rv,ht,hz⟩:=I.tuple hq
 refine assign_Tuple_tuple (I.ok.hd hc) ht (by simp [hn,← hl,rv.length]) C_ fun h' hx=>?_
 have I1:Inv X pins σ H { s with heap:=h' }:=I.kept (t':=s.toks) fun b o e=>hx b o (ip (er e)) e
 exact h pins _ σ H xs _ Q I1 (by simpa using rv) hw
def Rn (to ti:TE) (t:G8):TG:=fun v σ H Q=>to σ H fun o H1=>ti σ H1 fun i H2=>t o i v H2 fun H3=>Q σ H3
theorem G_ {o i:Expr} {to ti:TE} {t:G8} (ho:PE X o to) (hi:PE X i ti) (hs:LA X t)
  (ha:∀ v,assign (.Subscript o i pos) X.env v=(do
    let ov ← holding [v] (eval o X.env)
    let iv ← holding [v,ov] (eval i X.env)
    standAt pos
    holding [v,ov,iv] (setItem ov iv v)
    release [v,ov,iv] []):=by intro _; rfl):PG X (.Subscript o i pos) (Rn to ti t):=by
 intro pins s σ H v u Q I r h
 rw [ha]
 refine wpAny_bind (wpAny_holding (cf (ho pins s σ H _ I h) fun ov s1 ⟨x,H1,I1,r1,q1⟩=>?_))
 refine wpAny_bind (wpAny_holding (cf (hi pins s1 σ H1 _ I1 q1) fun iv s2 ⟨y,H2,I2,r2,q2⟩=>?_))
 refine wpAny_bind (wpAny_standAt (wpAny_bind (wpAny_holding (cf (hs pins s2 σ H2 x y v ov iv u _ I2 r1 r2 r q2) fun _ s3 ⟨H3,I3,q3⟩=>?_))))
 exact wpAny_release ⟨σ,H3,I3,q3⟩
def Dd (te:TE) (g:TG):TS:=fun D σ H=>te σ H fun x H1=>g x σ H1 D.nx
theorem Ah {tg e:Expr} {te:TE} {g:TG} (he:PE X e te) (hg:PG X tg g) (hs:swapsWithSole [tg] e pos.line X.env=pure false:=by rfl) (hw:swappedStores [tg] e X.env=pure none:=by rfl)
  (h1:(assignEach [tg] X.env).map (·.2)=[assign tg X.env]:=by rfl):PS X (.Assign [tg] e pos) (Dd te g):=by
 intro pins s σ H D I h
 refine wpAny_Assign_stores (cf (he pins s σ H _ I h) fun v s1 ⟨x,H1,I1,r1,q1⟩=>?_) hs hw
 rw [h1]
 exact cf (hg pins s1 σ H1 x v _ I1 r1 q1) fun _ s2 q=>q
theorem Ai {i:Nat} {x:Str} {e:Expr} {te:TE} {pos':Pos} (hN:X.N.Nodup) (hi:X.N[i]?=some x) (hx:Loc X.env.scope x) (he:PE X e te) (hs:swapsWith e (some (.Name x pos')) pos.line X.env=pure false:=by rfl) (hf:X.fn x=true∨X.env.scope.names.lookup x=some .local:=by first | exact .inl rfl | exact .inr rfl | assumption) :
  PS X (.Assign [.Name x pos'] e pos) (Dd te (gu i)):=by
 intro pins s σ H D I h
 refine wpAny_Assign_Name (cf (he pins s σ H _ I h) fun v s1 ⟨y,H1,I1,r1,q1⟩=>?_) hs
 exact lV I1 hN hi hx r1 (fun s2 I2=>⟨_,H1,I2,q1⟩) hf
def Ro (i:Nat) (te:TE) (ti:Rk):TS:=fun D σ H=>∃ x,σ[i]?=some (some x)∧te σ H fun y H1=>ti x y H1 fun z H2=>D.nx (σ.set i (some z)) H2
theorem G' {i:Nat} {x:Str} {e:Expr} {te:TE} {op:Operator} {ti:Rk} {pos':Pos} (hN:X.N.Nodup) (hi:X.N[i]?=some x) (hx:Loc X.env.scope x) (he:PE X e te) (ho:V4 X op ti) (hf:X.fn x=true∨X.env.scope.names.lookup x=some .local:=by first | exact .inl rfl | exact .inr rfl | assumption) :
  PS X (.AugAssign (.Name x pos') op e pos) (Ro i te ti):=by
 intro pins s σ H D I h
 obtain ⟨v,e1,h⟩:=h
 obtain ⟨m,hn,hl⟩:=I.loc
 have V5:uJ X.env.scope x:=by rcases hx with k | k; exact .inl k; exact .inr (.inl k)
 obtain ⟨u,r,l⟩:=hl i x v hi e1 V5
 refine wpAny_AugAssign_Name ?_
 have go:wpAny (model X.prog X.w) X.A (eval e X.env) (fun w s₂=>wpAny (model X.prog X.w) X.A (inplaceOp op u w) (fun r s₃=>wpAny (model X.prog X.w) X.A (storeName X.env x r) (fun _=>SP X pins D .next) X.xe s₃) X.xe s₂) X.xe s:=by
  refine cf (he pins s σ H _ I h) fun w s1 ⟨y,H1,I1,r1,q1⟩=>?_
  refine cf (ho pins s1 σ H1 v y u w _ I1 r r1 q1) fun z s2 ⟨zv,H2,I2,r2,q2⟩=>?_
  exact lV I2 hN hi hx r2 (fun s3 I3=>⟨_,H2,I3,q2⟩) hf
 rcases l with ⟨hk,hm⟩ | ⟨hk,c,hc,wV⟩
 · exact wpAny_loadName_local I.ok.kind hk hn hm go
 · rcases hk with hk | hk
   · exact wpAny_loadName_cell I.ok.kind hk hc wV go
   · rcases hx with k | k
     · have:X.env.scope.names.lookup x=some .free:=hk
       rw [k] at this; cases this
     · have:X.env.scope.names.lookup x=some .free:=hk
       rw [k] at this; cases this
end
section
variable {X:Cx} {pos:Pos}
end
structure It where
 go:Nat→Hp→Prop
 KG:Nat→Hp→V→Hp→Prop
 stop:Nat→Hp→Prop
def jS (X:Cx) (pins:List (Addr×Obj)) (H:Hp) (b:Addr):Prop :=
 H b=none∧b≠X.env.locals∧b∉X.fs∧(b∈X.ex∨X.s₀.heap.objs.size≤b)∧(∀ x c,X.env.cells.lookup x=some c→c≠b)∧∀ p∈X.pn ++ pins,p.1≠b
theorem Inv.og {X:Cx} {pins:List (Addr×Obj)} {σ:St} {H H':Hp} {s:Shared} {b:Addr} (I:Inv X pins σ H s) (hb:s.heap.objs.size≤b) (hn:H' b=none):jS X pins H' b:=by
 refine ⟨hn,CD (n_ I.lt hb),I.Q5 hb,.inr (kF I.sz hb),fun x c e z=>?_,fun p hp z=>?_⟩
 · obtain ⟨v,q⟩:=I.cell x c e
   exact absurd (n_ q.lt (by rw [z]; exact hb)) (CC _)
 · exact absurd (n_ (er (I.pin p hp).1) (by rw [z]; exact hb)) (CC _)
structure Turn (P:Program) (w:World) (K:PySem.W.Frag) (tg:Expr) (J:It) (fp:List Addr) (it:Addr) (tn:Nat→Heap→Prop):Prop where
 mem:it∈fp
 obj:∀ i h,tn i h→∀ b∈fp,∃ o,h.get? b=some o∧∀ v,o.data≠.cell v
 keep:∀ i h h',tn i h→(∀ b∈fp,∀ o,h.get? b=some o→h'.get? b=some o)→tn i h'
 item:∀ (X:Cx),X.prog=P→X.w=w→X.K=K→X.calm=true→∀ (i:Nat) (pins:List (Addr×Obj)) (s:Shared) (σ:St) (H:Hp) (E:Value→Shared→Prop),Inv X pins σ H s→(∀ b∈fp,jS X pins H b)→tn i s.heap→J.go i H →
  wpAny (model P w) X.A (pyNext (.ref it)) (fun r s1=>∃ u,r=some u ∧
   wpAny (model P w) X.A (letOwnedTupleGo tg (.ref it) u) (fun _ s2=>∃ x H',Inv X pins σ H' s2∧RelV x u∧J.KG i H x H'∧tn (i+1) s2.heap∧∀ b∈fp,H' b=none) E s1) E s
 done:∀ (X:Cx),X.prog=P→X.w=w→X.K=K→X.calm=true→∀ (i:Nat) (pins:List (Addr×Obj)) (s:Shared) (σ:St) (H:Hp) (E:Value→Shared→Prop),Inv X pins σ H s→(∀ b∈fp,jS X pins H b)→tn i s.heap→J.stop i H →
  wpAny (model P w) X.A (pyNext (.ref it)) (fun r s1=>r=none∧Inv X pins σ H s1) E s
 self:∀ (A:Around) (i:Nat) (s:Shared) (Q:Value→Shared→Prop) (E:Value→Shared→Prop),tn i s.heap→Q (.ref it) s→wpAny (model P w) A (pyIter (.ref it)) Q E s
abbrev TI:=St→Hp→(It→Hp→Prop)→Prop
def UZ (X:Cx) (pins:List (Addr×Obj)) (σ:St) (tg:Expr) (R:It→Hp→Prop) (P_:Value) (s2:Shared):Prop :=
 ∃ (it:Addr) (fp:List Addr) (tn:Nat→Heap→Prop) (J:It) (H':Hp),P_ = .ref it∧Inv X pins σ H' s2∧Turn X.prog X.w X.K tg J fp it tn∧tn 0 s2.heap∧(∀ b∈fp,jS X pins H' b)∧R J H'
def PI (X:Cx) (tg iter:Expr) (wi:TI):Prop :=
 ∀ (pins:List (Addr×Obj)) (s:Shared) (σ:St) (H:Hp) (R:It→Hp→Prop),Inv X pins σ H s→wi σ H R →
  wpAny (model X.prog X.w) X.A (eval iter X.env) (fun v s1=>wpAny (model X.prog X.w) X.A (pyIter v) (UZ X pins σ tg R) X.xe s1) X.xe s
theorem wY {M:Model} {A:Around} {E:Value→Shared→Prop} {s:Shared} {tg:Expr} {it:Addr} {u:Value} {o:Obj} {n:String} {vs:Array Value} {Q:Unit→Shared→Prop} (ho:s.heap.get? it=some o) (hc:o.cls = .type n) (hd:o.data = .fields vs)
  (hn:["enumerate","zip","dict_itemiterator","dict_reverseitemiterator","odict_iterator","itertools.zip_longest","itertools.pairwise"].contains n=false) (hQ:Q () s):wpAny M A (letOwnedTupleGo tg (.ref it) u) Q E s:=by
 unfold letOwnedTupleGo
 cases tg <;> first
  | exact wpAny_pure hQ
  | (cases u <;> first
      | exact wpAny_pure hQ
      | (refine wpAny_bind (wpAny_load ho ?_)
         rw [hc,hd]
         show wpAny M A (if (["enumerate","zip","dict_itemiterator","dict_reverseitemiterator","odict_iterator","itertools.zip_longest","itertools.pairwise"].contains n && vs[0]? == some (rawInt _))=true then _ else _) Q E s
         rw [if_neg (by intro h; rw [hn,z9] at h; cases h)]
         exact wpAny_pure hQ))
def Rp (K:PySem.W.Frag) (a:Addr):It :=
 ⟨fun i H=>∃ xs x,eB K H a xs∧xs[i]?=some x,fun i H x H'=>H'=H∧∀ xs,eB K H a xs→xs[i]?=some x,fun i H=>∃ xs,eB K H a xs∧xs.length≤i⟩
def Rq (K:PySem.W.Frag) (a:Addr):It :=
 ⟨fun i H=>∃ xs x,dq K H a xs∧xs[i]?=some x,fun i H x H'=>H'=H∧∀ xs,dq K H a xs→xs[i]?=some x,fun i H=>∃ xs,dq K H a xs∧xs.length≤i⟩
def P' (lo:Int) (n:Nat):It:=⟨fun i _=>i < n,fun i H x H'=>H'=H∧x = .int (lo+i),fun i _=>n≤i⟩
theorem ya {P:Program} {w:World} {K:PySem.W.Frag} {tg:Expr} (a it:Addr):Turn P w K tg (Rp K a) [it] it (fun i h=>h.IsListIter it a i) where
 mem:=by simp
 obj:=fun i h st b hb=>by
  have e:b=it:=by simpa using hb
  subst e
  obtain ⟨o,e,c,d⟩:=st
  exact ⟨o,e,fun v z=>by rw [d] at z; cases z⟩
 keep:=fun i h h' st k=>st.at fun o e=>k it (by simp) o e
 item:=by
  intro X hP hw hK hc i pins s σ H E I hf st hg
  subst hP hw hK
  obtain ⟨xs,x,hq,hx⟩:=hg
  obtain ⟨aJ,rv,p,hz⟩:=I.list hq
  obtain ⟨u,hu,ru⟩:=rv.get hx
  obtain ⟨f0,f1,f2,f3,f4,f5⟩:=hf it (by simp)
  refine wpAny_pyNext_list_item st p.isList (x:=u) (by simpa using hu) fun h' uU sb=>?_
  have I1:Inv X pins σ H { s with heap:=h' }:=I.turned (t':=s.toks) (fun b o hb e=>(sb.2 b hb).trans e) f0 f1 f3 f4 f5
  obtain ⟨o,e,c,d⟩:=id uU
  exact ⟨u,rfl,wY (s:={ s with heap:=h' }) e c d (by decide) ⟨x,H,I1,ru,⟨rfl,fun ys hy=>by rw [I.iW hy hq]; exact hx⟩,uU,fun b hb=>(hf b hb).1⟩⟩
 done:=by
  intro X hP hw hK hc i pins s σ H E I hf st hg
  subst hP hw hK
  obtain ⟨xs,hq,hx⟩:=hg
  obtain ⟨aJ,rv,p,hz⟩:=I.list hq
  obtain ⟨f0,f1,f2,f3,f4,f5⟩:=hf it (by simp)
  have hl:=rv.length
  exact wpAny_pyNext_list_end (I.ok.hd hc) st p.isList (by simp; omega) fun h' eb=>⟨rfl,I.turned (t':=s.toks) (fun b o hb e=>eb b o hb e) f0 f1 f3 f4 f5⟩
 self:=fun _ _ _ _ _ st h=>wpAny_pyIter_listiter st h
theorem uV {P:Program} {w:World} {K:PySem.W.Frag} {tg:Expr} (a it:Addr):Turn P w K tg (Rq K a) [it] it (fun i h=>h.IsTupleIter it a i) where
 mem:=by simp
 obj:=fun i h st b hb=>by
  have e:b=it:=by simpa using hb
  subst e
  obtain ⟨o,e,c,d⟩:=st
  exact ⟨o,e,fun v z=>by rw [d] at z; cases z⟩
 keep:=fun i h h' st k=>st.at fun o e=>k it (by simp) o e
 item:=by
  intro X hP hw hK hc i pins s σ H E I hf st hg
  subst hP hw hK
  obtain ⟨xs,x,hq,hx⟩:=hg
  obtain ⟨aJ,rv,p,hz⟩:=I.tuple hq
  obtain ⟨u,hu,ru⟩:=rv.get hx
  obtain ⟨f0,f1,f2,f3,f4,f5⟩:=hf it (by simp)
  refine wpAny_pyNext_tuple_item st (show s.heap.IsTuple a aJ.toArray from p) (x:=u) (by simpa using hu) fun h' uU sb=>?_
  have I1:Inv X pins σ H { s with heap:=h' }:=I.turned (t':=s.toks) (fun b o hb e=>(sb.2 b hb).trans e) f0 f1 f3 f4 f5
  obtain ⟨o,e,c,d⟩:=id uU
  exact ⟨u,rfl,wY (s:={ s with heap:=h' }) e c d (by decide) ⟨x,H,I1,ru,⟨rfl,fun ys hy=>by rw [I.jR hy hq]; exact hx⟩,uU,fun b hb=>(hf b hb).1⟩⟩
 done:=by
  intro X hP hw hK hc i pins s σ H E I hf st hg
  subst hP hw hK
  obtain ⟨xs,hq,hx⟩:=hg
  obtain ⟨aJ,rv,p,hz⟩:=I.tuple hq
  obtain ⟨f0,f1,f2,f3,f4,f5⟩:=hf it (by simp)
  have hl:=rv.length
  exact wpAny_pyNext_tuple_end (I.ok.hd hc) st (show s.heap.IsTuple a aJ.toArray from p) (by simp; omega) fun h' eb=>⟨rfl,I.turned (t':=s.toks) (fun b o hb e=>eb b o hb e) f0 f1 f3 f4 f5⟩
 self:=fun _ _ _ _ _ st h=>wpAny_pyIter_tupleiter st h
theorem uW {P:Program} {w:World} {K:PySem.W.Frag} {tg:Expr} (it:Addr) (lo:Int) (n:Nat):Turn P w K tg (P' lo n) [it] it (fun i h=>IsRangeIter h it (lo+(i:Nat) * 1) ((n:Int) - (i:Nat)) 1) where
 mem:=by simp
 obj:=fun i h st b hb=>by
  have e:b=it:=by simpa using hb
  subst e
  exact ⟨_,st,fun v z=>by
   have z':Data.fields _=Data.cell v:=z
   cases z'⟩
 keep:=fun i h h' st k=>k it (by simp) _ st
 item:=by
  intro X hP hw hK hc i pins s σ H E I hf st hg
  subst hP hw hK
  obtain ⟨f0,f1,f2,f3,f4,f5⟩:=hf it (by simp)
  have W:=Walks.range (prog:=X.prog) (w:=X.w) (I.ok.hd hc) it lo 1 n
  refine W.item i s _ _ hg st fun v h' tk hv uU kk=>?_
  obtain ⟨t,rfl⟩:=hv
  have I1:Inv X pins σ H { s with heap:=h',toks:=tk }:=I.turned (fun b o hb e=>kk b o (by simpa using hb) e) f0 f1 f3 f4 f5
  refine ⟨_,rfl,wY (s:={ s with heap:=h',toks:=tk }) (n:="range_iterator") uU rfl rfl (by decide) ⟨.int (lo+i),H,I1,⟨t,?_⟩,⟨rfl,rfl⟩,uU,fun b hb=>(hf b hb).1⟩⟩
  rw [Int.mul_one]
 done:=by
  intro X hP hw hK hc i pins s σ H E I hf st hg
  subst hP hw hK
  obtain ⟨f0,f1,f2,f3,f4,f5⟩:=hf it (by simp)
  exact wpAny_pyNext_range_end (I.ok.hd hc) st (by have:n≤i:=hg; omega) fun h' eb=>⟨rfl,I.turned (t':=s.toks) (fun b o hb e=>eb b o hb e) f0 f1 f3 f4 f5⟩
 self:=fun _ _ _ _ _ st h=>wpAny_pyIter_rangeiter st h
section
variable {X:Cx} {tg:Expr}
theorem Aj {pins:List (Addr×Obj)} {σ:St} {H:Hp} {s:Shared} {R:It→Hp→Prop} {E:Value→Shared→Prop} {lo hi:Int} {t u v:Tok} {tk:Nat} (I:Inv X pins σ H s) (h1 : -(2 ^ 62)≤lo) (h2:lo < 2 ^ 62) (h3 : -(2 ^ 62)≤hi) (h4:hi < 2 ^ 62)
  (q:R (P' lo (hi - lo).toNat) H):wpAny (model X.prog X.w) X.A (pyIter (.ref s.heap.objs.size)) (UZ X pins σ tg R) E { s with heap:=s.heap.push { cls:=.type "range",data:=.fields #[.int lo t,.int hi u,.int 1 v] },toks:=tk }:=by
 refine wpAny_pyIter_range (IsRange.new ..) (small_one h1 h2 h3 h4) ?_
 have I1:Inv X pins σ H { s with heap:=s.heap.push { cls:=.type "range",data:=.fields #[.int lo t,.int hi u,.int 1 v] },toks:=tk }:=I.kept fun b o e=>d_ _ e
 refine ⟨(s.heap.push { cls:=.type "range",data:=.fields #[.int lo t,.int hi u,.int 1 v] }).objs.size,[(s.heap.push { cls:=.type "range",data:=.fields #[.int lo t,.int hi u,.int 1 v] }).objs.size],_,_,H,rfl,
  I1.kept (t':=tk) fun b o e=>d_ _ e,uW _ lo (hi - lo).toNat,?_,fun b hb=>?_,q⟩
 · have e1:lo+((0:Nat):Int) * 1=lo:=by simp
   have e2:(((hi - lo).toNat:Nat):Int) - ((0:Nat):Int)=Builtin.Range.rangeSize lo hi 1:=by rw [rangeSize_one]; split <;> omega
   show IsRangeIter _ _ (lo+((0:Nat):Int) * 1) ((((hi - lo).toNat:Nat):Int) - ((0:Nat):Int)) 1
   rw [e1,e2]
   exact ly _ rfl
 · have e:b=(s.heap.push { cls:=.type "range",data:=.fields #[.int lo t,.int hi u,.int 1 v] }).objs.size:=by simpa using hb
   subst e
   exact I1.og (dH _) (I1.bA.fresh (dH _))
def LC (ta:TA):TI:=fun σ H R=>ta σ H fun vs H1=>∃ j:Int,vs=[.int j]∧-(2 ^ 62)≤j∧j < 2 ^ 62∧R (P' 0 j.toNat) H1
theorem yb {a:Expr} {ta:TA} {p pos:Pos} (hg:Gl X "range") (hm:X.mg "range" = none) (ha:PA X [a] ta) (hs:starEach [a] X.env=[(false,eval a X.env)]:=by rfl):PI X tg (.Call (.Name "range" p) [a] [] pos) (LC ta):=by
 intro pins s σ H R I h
 refine Call_ (jQ I hg hm boot_range (PK (cf (ha pos pins s σ H _ I h) fun us s1 ⟨vs,H1,I1,r1,q1⟩=>?_) hs rfl))
 obtain ⟨j,e,q1,q2,q⟩:=q1
 subst e
 cases r1 with
 | cons r rr =>
   cases rr
   obtain ⟨t,rfl⟩:=r
   exact call_range_1 (Aj I1 (by omega) (by omega) q1 q2 (by simpa using q))
def Rr (wi:TI) (g:TG) (tb:TS):TS:=fun D σ H=>wi σ H fun J H1=>∃ W:Nat→Nat→St→Hp→Prop,(∃ m,W 0 m σ H1)∧∀ i m σ H,W i m σ H →
 (J.stop i H∧D.nx σ H)∨(J.go i H∧∃ N:St→Hp→Prop,(∀ σ' H',N σ' H'→∃ m',m' < m∧W (i+1) m' σ' H')∧∀ x H',J.KG i H x H'→g x σ H' fun σ2 H2=>tb { D with nx:=N,ct:=N,bk:=D.nx } σ2 H2)
def lW (fp:List Addr) (h:Heap):List (Addr×Obj):=fp.filterMap fun b=>(h.get? b).map fun o=>(b,o)
theorem fZ {fp:List Addr} {h:Heap} {b:Addr} {o:Obj} (hb:b∈fp) (e:h.get? b=some o):(b,o)∈lW fp h:=List.mem_filterMap.mpr ⟨b,hb,by rw [e]; rfl⟩
theorem yc {fp:List Addr} {h:Heap} {p:Addr×Obj} (hp:p∈lW fp h):p.1∈fp∧h.get? p.1=some p.2:=by
 obtain ⟨b,hb,e⟩:=List.mem_filterMap.mp hp
 cases q:h.get? b with
 | none=>rw [q] at e; cases e
 | some o =>
   rw [q] at e
   have e':(b,o)=p:=Option.some.inj e
   subst e'
   exact ⟨hb,q⟩
theorem Inv.pinned {pins:List (Addr×Obj)} {σ:St} {H:Hp} {s:Shared} {fp:List Addr} (I:Inv X pins σ H s) (hf:∀ b∈fp,jS X pins H b) (ho:∀ b∈fp,∃ o,s.heap.get? b=some o∧∀ v,o.data≠.cell v):Inv X (pins ++ lW fp s.heap) σ H s :=
 I.wR fun p hp=>(gD.mp hp).elim (fun z=>I.pin p (iR _ z)) fun z=>by
  obtain ⟨hb,e⟩:=yc z
  obtain ⟨f0,f1,f2,_⟩:=hf p.1 hb
  obtain ⟨o,e',d⟩:=ho p.1 hb
  rw [e] at e'; cases e'
  exact ⟨e,f0,f1,f2,d⟩
theorem Inv.iX {pins pl:List (Addr×Obj)} {σ:St} {H:Hp} {s:Shared} (I:Inv X (pins ++ pl) σ H s):Inv X pins σ H s:=I.wR fun p hp=>I.pin p (iR _ (iU _ hp))
theorem Ha {iter:Expr} {body:List Stmt} {wi:TI} {g:TG} {tb:TS} {pos:Pos} (hp:PassesOwn (model X.prog X.w) X.A X.env X.xe) (hc:X.calm=true) (hi:PI X tg iter wi) (hg:PG X tg g) (hb:lz X body tb)
  (hs:∀ x,foldedSetIterable iter X.env x=pure x:=by intro _; rfl):PS X (.For tg iter body [] pos) (Rr wi g tb):=by
 intro pins s σ H D I h
 refine wpAny_For (cf (hi pins s σ H _ I h) fun v s1 h1=>cf h1 fun P_ s2 h2=>?_) hs
 obtain ⟨it,fp,tn,J,H2,e,I2,T,zO,f2,W,⟨m0,w0⟩,turn⟩:=h2
 subst e
 have Hb:∀ {H':Hp},(∀ b∈fp,H' b=none)→∀ b∈fp,jS X pins H' b:=fun hn b hb=>⟨hn b hb,(f2 b hb).2⟩
 refine codeAny_forLoop_any (fun n s'=>∃ i σ' H',Inv X pins σ' H' s'∧tn i s'.heap∧(∀ b∈fp,H' b=none)∧W i n σ' H') ?_ m0 ⟨0,σ,H2,I2,zO,fun b hb=>(f2 b hb).1,w0⟩
 rintro n s3 ⟨i,σ3,H3,I3,LD,LF,w3⟩
 rcases turn i n σ3 H3 w3 with ⟨stop,qn⟩ | ⟨go,N,hN,step⟩
 · refine wpAny_passesOwn hp (cf (T.done X rfl rfl rfl hc i pins s3 σ3 H3 X.xe I3 (Hb LF) LD stop) fun r s4 ⟨hr,I4⟩=>?_)
   subst hr
   exact wpAny_execs_nil ⟨σ3,H3,I4,qn⟩
 · refine wpAny_passesOwn hp (cf (T.item X rfl rfl rfl hc i pins s3 σ3 H3 X.xe I3 (Hb LF) LD go) fun r s4 ⟨u,hr,h4⟩=>?_)
   subst hr
   refine wpAny_passesOwn hp (cf h4 fun _ s5 ⟨x,H5,I5,r5,y5,Hc,Ru⟩=>?_)
   have V6:=I5.pinned (Hb Ru) (T.obj _ _ Hc)
   refine wpAny_passesOwn hp (cf (hg _ s5 σ3 H5 x u _ V6 r5 (step x H5 y5)) fun _ s6 ⟨σ6,H6,I6,q6⟩=>?_)
   refine wpAny_passesOwn hp (cf (hb _ s6 σ6 H6 _ I6 q6) fun f s7 q7=>?_)
   have again:∀ {σ7:St} {H7:Hp},Inv X (pins ++ lW fp s5.heap) σ7 H7 s7→N σ7 H7→∃ m,m < n∧∃ i σ' H',Inv X pins σ' H' s7∧tn i s7.heap∧(∀ b∈fp,H' b=none)∧W i m σ' H':=fun {σ7 H7} I7 n7=>by
    obtain ⟨m',hm,w7⟩:=hN σ7 H7 n7
    refine ⟨m',hm,i+1,σ7,H7,I7.iX,T.keep _ _ _ Hc fun b hb o e=>(I7.pin (b,o) (iR _ (iR _ (fZ hb e)))).1,fun b hb=>?_,w7⟩
    obtain ⟨o,e,d⟩:=T.obj _ _ Hc b hb
    exact (I7.pin (b,o) (iR _ (iR _ (fZ hb e)))).2.1
   cases f with
   | brk=>obtain ⟨σ7,H7,I7,q7⟩:=q7; exact ⟨σ7,H7,I7.iX,q7⟩
   | ret v=>obtain ⟨x7,σ7,H7,I7,r7,q7⟩:=q7; exact ⟨x7,σ7,H7,I7.iX,r7,q7⟩
   | _=>obtain ⟨σ7,H7,I7,n7⟩:=q7; exact again I7 n7
end
abbrev R2:=V→V→Hp→VK→Prop
def eC (X:Cx) (f:Value→Value→Sem Value) (r:R2):Prop :=
 ∀ (pins:List (Addr×Obj)) (s:Shared) (σ:St) (H:Hp) (x y:V) (v u:Value) (Q:VK),Inv X pins σ H s→RelV x v→RelV y u→r x y H Q →
  wpAny (model X.prog X.w) X.A (f v u) (EP X pins σ Q) X.xe s
def Rv (X:Cx) (f:Value→Sem Value) (r:V→Hp→VK→Prop):Prop :=
 ∀ (pins:List (Addr×Obj)) (s:Shared) (σ:St) (H:Hp) (x:V) (v:Value) (Q:VK),Inv X pins σ H s→RelV x v→r x H Q →
  wpAny (model X.prog X.w) X.A (f v) (EP X pins σ Q) X.xe s
def cM (X:Cx) (f:Value) (r:List V→Hp→VK→Prop):Prop :=
 ∀ (pins:List (Addr×Obj)) (s:Shared) (σ:St) (H:Hp) (xs:List V) (us:List Value) (Q:VK),Inv X pins σ H s→Vals xs us→r xs H Q →
  wpAny (model X.prog X.w) X.A (call f us) (EP X pins σ Q) X.xe s
def LG (r:R2) (ta tb:TE):TE:=fun σ H Q=>ta σ H fun x H1=>tb σ H1 fun y H2=>r x y H2 Q
def V7 (r:V→Hp→VK→Prop) (ta:TE):TE:=fun σ H Q=>ta σ H fun x H1=>r x H1 Q
def rI (C:Int→Int→Prop) (g:Int→Int→V):R2:=fun x y H Q=>∃ i j,x = .int i∧y = .int j∧C i j∧Q (g i j) H
def qf (g:Int→Int→V):R2:=fun x y H Q=>∃ i j,x = .int i∧y = .int j∧Q (g i j) H
def rU (g:Int→V):V→Hp→VK→Prop:=fun x H Q=>∃ i,x = .int i∧Q (g i) H
section
variable {X:Cx} {a b c:Expr} {ta tb tc:TE} {pos:Pos}
theorem He (ha:PE X a ta) (hb:PE X b tb) {pins:List (Addr×Obj)} {s:Shared} {σ:St} {H:Hp} {R:V→V→Hp→Prop} (I:Inv X pins σ H s)
  (h:ta σ H fun x H1=>tb σ H1 fun y H2=>R x y H2) {Q:Value→Shared→Prop} {f:Value→Value→Sem Value}
  (hf:∀ v u s2 x y H2,Inv X pins σ H2 s2→RelV x v→RelV y u→R x y H2→wpAny (model X.prog X.w) X.A (f v u) Q X.xe s2) :
  wpAny (model X.prog X.w) X.A (eval a X.env) (fun v s₁=>wpAny (model X.prog X.w) X.A (eval b X.env) (fun u s₂=>wpAny (model X.prog X.w) X.A (f v u) Q X.xe s₂) X.xe s₁) X.xe s:=by
 refine cf (ha pins s σ H _ I h) fun v s1 ⟨x,H1,I1,r1,q1⟩=>?_
 refine cf (hb pins s1 σ H1 _ I1 q1) fun u s2 ⟨y,H2,I2,r2,q2⟩=>?_
 exact hf v u s2 x y H2 I2 r1 r2 q2
theorem LH {op:Operator} {r:R2} (ho:eC X (binaryOp op) r) (ha:PE X a ta) (hb:PE X b tb):PE X (.BinOp a op b pos) (LG r ta tb):=by
 intro pins s σ H Q I h
 exact wpAny_BinOp (He ha hb I h fun v u s2 x y H2 I2 rx ry q=>ho pins s2 σ H2 x y v u Q I2 rx ry q)
theorem LI {op:UnaryOp} {r:V→Hp→VK→Prop} (ho:Rv X (unaryOp op) r) (ha:PE X a ta):PE X (.UnaryOp op a pos) (V7 r ta):=by
 intro pins s σ H Q I h
 exact UnaryOp_ (cf (ha pins s σ H _ I h) fun v s1 ⟨x,H1,I1,r1,q1⟩=>ho pins s1 σ H1 x v Q I1 r1 q1)
theorem Qa {f:Value→Value→Sem Value} {C:Int→Int→Prop} {g:Int→Int→Int}
  (rule:∀ (i j:Int) (t u:Tok) (s:Shared) (Q:Value→Shared→Prop) (E:Value→Shared→Prop),C i j→Q (.int (g i j) s.toks) { s with toks:=s.toks+1 }→wpAny (model X.prog X.w) X.A (f (.int i t) (.int j u)) Q E s) :
  eC X f (rI C fun i j=>.int (g i j)):=by
 intro pins s σ H x y v u Q I rx ry h
 obtain ⟨i,j,rfl,rfl,hc,q⟩:=h
 obtain ⟨t,rfl⟩:=rx
 obtain ⟨t',rfl⟩:=ry
 exact rule i j t t' s _ _ hc ⟨.int (g i j),H,I.tok _,⟨_,rfl⟩,q⟩
theorem Hf {f:Value→Value→Sem Value} {g:Int→Int→Int}
  (rule:∀ (i j:Int) (t u:Tok) (s:Shared) (Q:Value→Shared→Prop) (E:Value→Shared→Prop),Q (.int (g i j) s.toks) { s with toks:=s.toks+1 }→wpAny (model X.prog X.w) X.A (f (.int i t) (.int j u)) Q E s) :
  eC X f (qf fun i j=>.int (g i j)):=by
 intro pins s σ H x y v u Q I rx ry h
 obtain ⟨i,j,rfl,rfl,q⟩:=h
 obtain ⟨t,rfl⟩:=rx
 obtain ⟨t',rfl⟩:=ry
 exact rule i j t t' s _ _ ⟨.int (g i j),H,I.tok _,⟨_,rfl⟩,q⟩
theorem Hg {f:Value→Value→Sem Value} {g:Int→Int→Bool}
  (rule:∀ (i j:Int) (t u:Tok) (s:Shared) (Q:Value→Shared→Prop) (E:Value→Shared→Prop),Q (.bool (g i j)) s→wpAny (model X.prog X.w) X.A (f (.int i t) (.int j u)) Q E s) :
  eC X f (qf fun i j=>.bl (g i j)):=by
 intro pins s σ H x y v u Q I rx ry h
 obtain ⟨i,j,rfl,rfl,q⟩:=h
 obtain ⟨t,rfl⟩:=rx
 obtain ⟨t',rfl⟩:=ry
 exact rule i j t t' s _ _ ⟨.bl (g i j),H,I,rfl,q⟩
def LJ (i j:Int):Prop:=0 < j∧j < 1073741824
def LK (i j:Int):Prop:=0≤j∧j≤1000000∧i.natAbs < 2 ^ 64
def Ak (i j:Int):Prop:=(-(2 ^ 64) < i∧i < 2 ^ 64)∨(-(2 ^ 64) < j∧j < 2 ^ 64)
theorem Ak.ok {i j:Int} (h:Ak i j):IntMulOk i j:=by
 rcases h with ⟨h1,h2⟩ | ⟨h1,h2⟩
 · exact .of_left (intBits_le_64 h1 h2)
 · exact .of_right (intBits_le_64 h1 h2)
theorem Hh:eC X (binaryOp .Add) (qf fun i j=>.int (i+j)):=Hf fun _ _ _ _ _ _ _ q=>add_int q
theorem Hi:eC X (binaryOp .Sub) (qf fun i j=>.int (i - j)):=Hf fun _ _ _ _ _ _ _ q=>sub_int q
theorem Hj:eC X (binaryOp .Mult) (rI Ak fun i j=>.int (i * j)):=Qa fun _ _ _ _ _ _ _ hc q=>mul_int q hc.ok
theorem De:eC X (binaryOp .FloorDiv) (rI LJ fun i j=>.int (i / j)):=Qa fun i j _ _ _ _ _ hc q=>by
 have h1:(0:Int) < j:=hc.1
 have h2:j < 1073741824:=hc.2
 exact floordiv_int (by omega) (by rw [Int.fdiv_eq_ediv_of_nonneg i (by omega)]; exact q) (.inl (PyProof.noPylong_small (by omega)))
theorem Hk:eC X (binaryOp .Mod) (rI (fun _ j=>0 < j) fun i j=>.int (i % j)):=Qa fun i j _ _ _ _ _ hc q=>by
 have h1:(0:Int) < j:=hc
 exact mod_int' (by omega) (by rw [Int.fmod_eq_emod_of_nonneg i (by omega)]; exact q)
theorem Hl:eC X (binaryOp .Pow) (rI LK fun i j=>.int (i ^ j.toNat)):=Qa fun _ _ _ _ _ _ _ hc q=>pow_int_small hc.1 hc.2.1 hc.2.2 q
theorem Dg:eC X (inplaceOp .Add) (qf fun i j=>.int (i+j)):=Hf fun _ _ _ _ _ _ _ q=>iadd_int q
theorem V8 {f:Value→Sem Value} {g:Int→Int}
  (rule:∀ (i:Int) (t:Tok) (s:Shared) (Q:Value→Shared→Prop) (E:Value→Shared→Prop),Q (.int (g i) s.toks) { s with toks:=s.toks+1 }→wpAny (model X.prog X.w) X.A (f (.int i t)) Q E s) :
  Rv X f (rU fun i=>.int (g i)):=by
 intro pins s σ H x v Q I rx h
 obtain ⟨i,rfl,q⟩:=h
 obtain ⟨t,rfl⟩:=rx
 exact rule i t s _ _ ⟨.int (g i),H,I.tok _,⟨_,rfl⟩,q⟩
theorem Hm:Rv X (unaryOp .USub) (rU fun i=>.int (-i)):=V8 fun _ _ _ _ _ q=>neg_int q
end
section
variable {X:Cx} {a b c:Expr} {ta tb tc:TE} {pos:Pos}
theorem Al {pins:List (Addr×Obj)} {σ:St} {H:Hp} {s:Shared} {Q:VK} {k k':Bool} (I:Inv X pins σ H s) (q:Q (.bl k) H) (e:k=k'):EP X pins σ Q (.bool k') s:=by
 subst e
 exact ⟨.bl k,H,I,rfl,q⟩
theorem FN:eC X (compareOp .Lt) (qf fun i j=>.bl (decide (i < j))):=Hg fun _ _ _ _ _ _ _ q=>lt_int q
theorem Am:eC X (compareOp .LtE) (qf fun i j=>.bl (decide (i≤j))):=Hg fun _ _ _ _ _ _ _ q=>le_int q
theorem LL:eC X (compareOp .Gt) (qf fun i j=>.bl (decide (j < i))):=Hg fun _ _ _ _ _ _ _ q=>gt_int q
theorem yd:eC X (compareOp .In) (fun x y H Q=>∃ i j,x = .str i∧y = .str j∧Q (.bl (!(Builtin.Str.occurrences j i 0 j.length 1).isEmpty)) H):=by
 intro pins s σ H x y v u Q I rx ry h
 obtain ⟨i,j,rfl,rfl,q⟩:=h
 obtain ⟨t,rfl⟩:=rx
 obtain ⟨t',rfl⟩:=ry
 exact in_str (Al I q rfl)
theorem Hn:eC X (compareOp .Is) (fun x y H Q=>y = .bp∧Q (.bl (decide (x = .bp))) H):=by
 intro pins s σ H x y v u Q I rx ry h
 obtain ⟨rfl,q⟩:=h
 cases ry
 refine is_none_gen (Al I q ?_)
 cases x <;> first
  | (cases rx; rfl)
  | (obtain ⟨t,rfl⟩:=rx; rfl)
theorem eC.or {f:Value→Value→Sem Value} {r r':R2} (h:eC X f r) (h':eC X f r'):eC X f (fun x y H Q=>r x y H Q∨r' x y H Q):=by
 intro pins s σ H x y v u Q I rx ry q
 rcases q with q | q
 · exact h pins s σ H x y v u Q I rx ry q
 · exact h' pins s σ H x y v u Q I rx ry q
theorem iC (b:Expr) {op:CmpOp} (h:op≠.In:=by decide) (h2:op≠.NotIn:=by decide):behindInMarks op b=false:=by
 have e1:(op == CmpOp.In)=false:=by cases op <;> first | rfl | exact absurd rfl h
 have e2:(op == CmpOp.NotIn)=false:=by cases op <;> first | rfl | exact absurd rfl h2
 cases b <;> simp [behindInMarks,e1,e2]
theorem Dh {op:CmpOp} {r:R2} (ho:eC X (compareOp op) r) (ha:PE X a ta) (hb:PE X b tb) (hm:behindInMarks op b=false):PE X (.Compare a [op] [b] pos) (LG r ta tb):=by
 intro pins s σ H Q I h
 exact wpAny_Compare1 (He ha hb I h fun v u s2 x y H2 I2 rx ry q=>ho pins s2 σ H2 x y v u Q I2 rx ry q) hm
def FQ (t:TE):TT:=fun σ H Q=>t σ H fun x H'=>∃ k,x = .bl k∧Q k H'
theorem Di {op:CmpOp} {r:R2} (ho:eC X (compareOp op) r) (ha:PE X a ta) (hb:PE X b tb) (hm:behindInMarks op b=false):PT X (.Compare a [op] [b] pos) (FQ (LG r ta tb)):=by
 intro pins s σ H Q I h
 refine wpAny_isTrue_Compare1 (cf (ha pins s σ H _ I h) fun v s1 ⟨x,H1,I1,r1,q1⟩=>cf (hb pins s1 σ H1 _ I1 q1) fun u s2 ⟨y,H2,I2,r2,q2⟩ =>
  cf (ho pins s2 σ H2 x y v u _ I2 r1 r2 q2) fun c s3 ⟨z,H3,I3,r3,k,e,q3⟩=>?_) hm
 subst e
 cases r3
 exact wpAny_truthy_bool ⟨H3,I3,q3⟩
def uX (r r':R2) (ta tb tc:TE):TE:=fun σ H Q=>ta σ H fun x H1=>tb σ H1 fun y H2=>r x y H2 fun z H3=>∃ k,z = .bl k ∧
 (if k=true then tc σ H3 fun w' H4=>r' y w' H4 Q else Q (.bl false) H3)
theorem An {op uY:CmpOp} {r r':R2} (ho:eC X (compareOp op) r) (uS:eC X (compareOp uY) r') (ha:PE X a ta) (hb:PE X b tb) (hc:PE X c tc)
  (hm:lastMarks [op,uY] [b,c]=false:=by with_unfolding_all rfl):PE X (.Compare a [op,uY] [b,c] pos) (uX r r' ta tb tc):=by
 intro pins s σ H Q I h
 refine Compare_chain (cf (ha pins s σ H _ I h) fun v s1 ⟨x,H1,I1,r1,q1⟩=>chain_link (cf (hb pins s1 σ H1 _ I1 q1) fun u s2 ⟨y,H2,I2,r2,q2⟩ =>
  cf (ho pins s2 σ H2 x y v u _ I2 r1 r2 q2) fun d s3 ⟨z,H3,I3,r3,k,e,q3⟩=>?_)) hm
 subst e
 cases r3
 refine wpAny_truthy_bool ?_
 cases k with
 | false=>exact ite_ff ⟨.bl false,H3,I3,rfl,q3⟩
 | true=>exact ite_tt (chain_last (cf (hc pins s3 σ H3 _ I3 q3) fun w' s4 ⟨z',H4,I4,r4,q4⟩=>uS pins s4 σ H4 y z' u w' Q I4 r2 r4 q4))
theorem Ao {op uY:CmpOp} {r r':R2} (ho:eC X (compareOp op) r) (uS:eC X (compareOp uY) r') (ha:PE X a ta) (hb:PE X b tb) (hc:PE X c tc)
  (hm:lastMarks [op,uY] [b,c]=false:=by with_unfolding_all rfl):PT X (.Compare a [op,uY] [b,c] pos) (FQ (uX r r' ta tb tc)):=by
 intro pins s σ H Q I h
 refine isTrue_chain (cf (ha pins s σ H _ I h) fun v s1 ⟨x,H1,I1,r1,q1⟩=>test_link (cf (hb pins s1 σ H1 _ I1 q1) fun u s2 ⟨y,H2,I2,r2,q2⟩ =>
  cf (ho pins s2 σ H2 x y v u _ I2 r1 r2 q2) fun d s3 ⟨z,H3,I3,r3,k,e,q3⟩=>?_)) hm
 subst e
 cases r3
 refine wpAny_truthy_bool ?_
 cases k with
 | false =>
   obtain ⟨k',e',q'⟩:=q3
   cases e'
   exact ite_ff ⟨H3,I3,q'⟩
 | true =>
   refine ite_tt (test_last (cf (hc pins s3 σ H3 _ I3 q3) fun w' s4 ⟨z',H4,I4,r4,q4⟩=>cf (uS pins s4 σ H4 y z' u w' _ I4 r2 r4 q4) fun d' s5 ⟨z2,H5,I5,r5,k2,e2,q5⟩=>?_))
   subst e2
   cases r5
   exact wpAny_truthy_bool ⟨H5,I5,q5⟩
theorem jT:(sizeLine:Nat) < 2 ^ 63:=by rw [sizeLine_eq]; decide
theorem uZ:eC X (binaryOp .Add) (fun x y H Q=>∃ i j,x = .str i∧y = .str j∧i.length+j.length≤sizeLine∧Q (.str (i ++ j)) H):=by
 intro pins s σ H x y v u Q I rx ry h
 obtain ⟨i,j,rfl,rfl,hz,q⟩:=h
 obtain ⟨t,rfl⟩:=rx
 obtain ⟨t',rfl⟩:=ry
 exact add_str (fun t' tk=>⟨.str (i ++ j),H,I.tok _,⟨_,rfl⟩,q⟩) hz
theorem vals1 {x:V} {us:List Value} (r:Vals [x] us):∃ u,us=[u]∧RelV x u:=by
 cases r with
 | cons r1 r2=>cases r2; exact ⟨_,rfl,r1⟩
theorem vals2 {x y:V} {us:List Value} (r:Vals [x,y] us):∃ u w',us=[u,w']∧RelV x u∧RelV y w':=by
 cases r with
 | cons r1 r2 =>
   cases r2 with
   | cons r3 r4=>cases r4; exact ⟨_,_,rfl,r1,r3⟩
end
section
variable {prog:Program} {w:World} {A:Around} {E:Value→Shared→Prop} {s:Shared} {K:PySem.W.Frag} {x dx C f:Addr} {mA:Str→Option Value} {name:Str} {v:Value}
end
theorem kT.some_of {v:V} {o:Option Value} (r:kT (some v) o):∃ u,o=some u∧RelV v u:=by
 cases o with
 | none=>exact (show False from r).elim
 | some u=>exact ⟨u,rfl,r⟩
section
variable {P:Program} {w:World} {H H':Hp} {h h':Heap} {a C dx:Addr} {fs Ll:List (Str×V)}
end
structure U0 (K:PySem.W.Frag) (C:Addr):Prop where
 pg:PySem.W.plainGet K C Str.empty=true
 hd:PySem.W.hasDictIn K C=true
 po:PySem.W.plainOver K C=true
 sa:PySem.W.findIn K (.ref C) "__setattr__" = some (some (.builtin "object.__setattr__"))
theorem U0.get {K:PySem.W.Frag} {C:Addr} (c:U0 K C) (f:Str):PySem.W.plainGet K C f=true:=c.pg
section
variable {X:Cx} {pins:List (Addr×Obj)} {σ:St} {H:Hp} {s:Shared} {a C dx:Addr} {fs:List (Str×V)} {f:Str} {v:V} {A:Around} {E:Value→Shared→Prop}
theorem Inv.made (I:Inv X pins σ H s):Inv X pins σ (upd (upd H s.heap.objs.size (.own (s.heap.objs.size+1))) (s.heap.objs.size+1) (.ins C s.heap.objs.size []))
  { s with heap:=(s.heap.push PySem.W.emptyDict).push (PySem.W.instObj C s.heap.objs.size) }:=by
 have e1:(s.heap.push PySem.W.emptyDict).get? s.heap.objs.size=some PySem.W.emptyDict:=ly s.heap rfl
 have e2:((s.heap.push PySem.W.emptyDict).push (PySem.W.instObj C s.heap.objs.size)).get? (s.heap.objs.size+1)=some (PySem.W.instObj C s.heap.objs.size):=by
  have:=ly (s.heap.push PySem.W.emptyDict) (o:=PySem.W.instObj C s.heap.objs.size) rfl
  rwa [uP] at this
 have e3:(s.heap.push PySem.W.emptyDict).Ns s.heap.objs.size (fun _=>none):=⟨PySem.W.emptyDict,#[],_,e1,rfl,(fun e he=>absurd he (by simp)),fun _=>rfl⟩
 have I1:=I.laid (a:=s.heap.objs.size) (o:=.own (s.heap.objs.size+1)) (h':=s.heap.push PySem.W.emptyDict) (t':=s.toks) (fun b u q=>d_ _ q) (dH _) ⟨_,e1⟩
 refine I1.laid (a:=s.heap.objs.size+1) (o:=.ins C s.heap.objs.size []) (t':=s.toks) (fun b u q=>d_ _ q) (Nat.le_of_eq (uP _ _)) ?_
 have ne:s.heap.objs.size≠s.heap.objs.size+1:=ip (GO _)
 refine ⟨by rw [aP ne,aX],ia _,ne,e2,fun _=>none,(Heap.Ns1.of_empty e3).at fun o q=>d_ _ q,fun _=>True.intro,fun y hy=>absurd rfl hy⟩
end
section
variable {X:Cx} {o e value:Expr} {f:Str} {pos pos' oh:Pos} {ta tv:TE}
end
section
variable {X:Cx} {pins:List (Addr×Obj)} {σ:St} {H:Hp} {s:Shared} {A:Around} {E:Value→Shared→Prop} {Q:Value→Shared→Prop} {c:Value} {b:Bool}
end
structure bP (k:Nat) (A:Around):Prop where
 hd:A.handled=none
 dp:A.depth+3 * k+5 < recursionLimit
 un:A.units+16 * k+200 < cLine
theorem bP.mono {j k:Nat} {A:Around} (r:bP k A) (h:j≤k):bP j A:=⟨r.hd,by have:=r.dp; omega,by have:=r.un; omega⟩
theorem bP.deeper {k:Nat} {A:Around} (r:bP (k+1) A) (env:Env):bP k (A.deeper env) :=
 ⟨r.hd,by have:=r.dp; show A.depth+1+3 * k+5 < _; omega,by have:=r.un; show A.units+3+16 * k+200 < _; omega⟩
theorem bP.in1 {k:Nat} {A:Around} (r:bP (k+1) A):bP k A.in1 :=
 ⟨r.hd,by have:=r.dp; show A.depth+3 * k+5 < _; omega,by have:=r.un; show A.units+1+16 * k+200 < _; omega⟩
theorem bP.depth {k:Nat} {A:Around} (r:bP k A):A.depth < recursionLimit:=by have:=r.dp; omega
theorem bP.units {k:Nat} {A:Around} (r:bP k A):A.units+64 < cLine:=by have:=r.un; omega
def Rx:TA:=fun _ H Q=>Q [] H
def LM (ta:TE) (tr:TA):TA:=fun σ H Q=>ta σ H fun x H1=>tr σ H1 fun xs H2=>Q (x :: xs) H2
section
variable {X:Cx} {e:Expr} {es:List Expr} {te:TE} {t:TA} {pos:Pos}
theorem dW:PA X [] Rx:=fun _ _ _ _ H Q I h=>Calls.spliced_nil ⟨[],H,I,.nil,h⟩
theorem bY (ha:PE X e te) (hr:PA X es t) (hs:starEach (e :: es) X.env=(false,eval e X.env) :: starEach es X.env:=by rfl):PA X (e :: es) (LM te t):=by
 intro pos pins s σ H Q I h
 rw [hs]
 show wpAny _ _ (spliced ((false,eval e X.env) :: backTo pos (starEach es X.env))) _ _ s
 refine Calls.spliced_cons (cf (ha pins s σ H _ I h) fun u s1 ⟨x,H1,I1,r1,q1⟩=>?_)
 exact cf (hr pos pins s1 σ H1 _ I1 q1) fun us s2 ⟨xs,H2,I2,r2,q2⟩=>⟨x :: xs,H2,I2,.cons r1 r2,q2⟩
def Ry (t:TA):TE:=fun σ H Q=>t σ H fun xs H1=>xs.length≤sizeLine∧∀ p,H1 p=none→Q (.ref p) (upd H1 p (.tup xs))
def Rz (t:TA):TE:=fun σ H Q=>t σ H fun xs H1=>xs.length≤sizeLine∧∀ p,H1 p=none→Q (.ref p) (upd H1 p (.lst xs))
theorem Ho {x1} (h:PA X es t):PE X (.Tuple es x1 pos) (Ry t):=by
 intro pins s σ H Q I hq
 refine wpAny_Tuple_spliced (cf (h pos pins s σ H _ I hq) fun us s1 ⟨xs,H1,I1,r,z,q⟩=>⟨by rw [← r.length]; exact z,?_⟩)
 have hf:H1 s1.heap.objs.size=none:=I1.bA.fresh (dH _)
 refine ⟨.ref s1.heap.objs.size,upd H1 s1.heap.objs.size (.tup xs),I1.laid (t':=s1.toks) (fun b u e=>d_ _ e) (dH _) ?_,rfl,q _ hf⟩
 exact ⟨z,us,r,⟨_,ly _ rfl,rfl,_,rfl⟩⟩
theorem Hq (h:PA X es t):PE X (.List es pos) (Rz t):=by
 intro pins s σ H Q I hq
 refine wpAny_List_spliced (cf (h pos pins s σ H _ I hq) fun us s1 ⟨xs,H1,I1,r,z,q⟩=>⟨by rw [← r.length]; exact z,?_⟩)
 have hf:H1 s1.heap.objs.size=none:=I1.bA.fresh (dH _)
 refine ⟨.ref s1.heap.objs.size,upd H1 s1.heap.objs.size (.lst xs),I1.laid (t':=s1.toks) (fun b u e=>d_ _ e) (dH _) ?_,rfl,q _ hf⟩
 exact ⟨z,us,0,r,ly _ rfl⟩
end
abbrev Sp:=List V→Hp→VK→XK→Prop
abbrev wZ:=List Env→Hp→Shared→XK→Value→Shared→Prop
structure u3 (P:Program) (w:World) (K:PySem.W.Frag) (mg:Str→Option Value) (base:Heap) (A:Around) (outer:List Env) (s:Shared) (H:Hp):Prop where
 frames:A.frames=some outer
 mod:Mod K mg base
 bs:∀ b o,base.get? b=some o→s.heap.get? b=some o∧H b=none
 CG:base.objs.size≤s.heap.objs.size
 kX:s.heap.FunFrames base outer
 GY:∀ b∈zM outer,H b=none
 bA:jM P w H s.heap
 bare:AllBare s.gens
def CE (outer:List Env) (P:Program) (w:World) (H:Hp) (s:Shared) (Q:VK) (u:Value) (s':Shared):Prop :=
 ∃ v H',s'.os=s.os∧AllBare s'.gens∧Un (zM outer) [] H H' s.heap s'.heap∧jM P w H' s'.heap∧RelV v u∧Q v H'
def CR (CX:wZ) (outer:List Env) (P:Program) (w:World) (H:Hp) (s:Shared) (Q:VK) (E:XK) (r:Result) (s':Shared):Prop :=
 match r with
 | .ok (.ret u)=>CE outer P w H s Q u s'
 | .ok _=>False
 | .error e=>CX outer H s E e s'
structure dX (P:Program) (w:World) (K:PySem.W.Frag) (mg:Str→Option Value) (base:Heap) (CX:wZ) (k:Nat) (f:Addr) (fd:FuncData) (ps:List Str) (sp:Sp):Prop where
 len:∀ vs H Q E,sp vs H Q E→vs.length=ps.length
 run:∀ (A:Around) (outer:List Env) (s:Shared) (H:Hp) (args:Args) (us:List Value) (vs:List V) (Q:VK) (E:XK),bP k A→u3 P w K mg base A outer s H→BindsTo s fd args (ps.zip us)→Vals vs us→sp vs H Q E →
  codeAny (model P w) A (.call (.ref f) args) (CR CX outer P w H s Q E) s
theorem dX.mono {P:Program} {w:World} {K:PySem.W.Frag} {mg:Str→Option Value} {base:Heap} {CX:wZ} {j k:Nat} {f:Addr} {fd:FuncData} {ps:List Str} {sp:Sp} (F:dX P w K mg base CX j f fd ps sp) (h:j≤k) :
 dX P w K mg base CX k f fd ps sp:=⟨F.len,fun A outer s H args us vs Q E hr=>F.run A outer s H args us vs Q E (hr.mono h)⟩
theorem dX.imp {P:Program} {w:World} {K:PySem.W.Frag} {mg:Str→Option Value} {base:Heap} {CX:wZ} {k:Nat} {f:Addr} {fd:FuncData} {ps:List Str} {sp U1:Sp} (F:dX P w K mg base CX k f fd ps sp)
  (h:∀ vs H Q E,U1 vs H Q E→sp vs H Q E):dX P w K mg base CX k f fd ps U1 :=
 ⟨fun vs H Q E q=>F.len vs H Q E (h _ _ _ _ q),fun A outer s H args us vs Q E hr he hb hv hs=>F.run A outer s H args us vs Q E hr he hb hv (h _ _ _ _ hs)⟩
theorem u3.in1 {P:Program} {w:World} {K:PySem.W.Frag} {mg:Str→Option Value} {base:Heap} {A:Around} {outer:List Env} {s:Shared} {H:Hp} (e:u3 P w K mg base A outer s H) :
 u3 P w K mg base A.in1 outer s H:=⟨e.frames,e.mod,e.bs,e.CG,e.kX,e.GY,e.bA,e.bare⟩
section
variable {X:Cx} {pins:List (Addr×Obj)} {σ:St} {H:Hp} {s s':Shared}
theorem Inv.RA (I:Inv X pins σ H s):u3 X.prog X.w X.K X.mg X.base X.A X.stack s H :=
 ⟨I.ok.frames,I.ok.mod,I.bs,kF I.ok.CG I.sz,I.stack,I.wQ,I.bA,I.bare⟩
theorem Inv.after {Q:VK} {u:Value} (I:Inv X pins σ H s) (h:CE X.stack X.prog X.w H s Q u s'):EP X pins σ Q u s':=by
 obtain ⟨v,H',os,bare,un,bA,r,q⟩:=h
 obtain ⟨hh,g,d,t,LN⟩:=s'
 obtain rfl:LN=s.os:=os
 exact ⟨v,H',I.call (h':=hh) (g':=g) (d':=d) (t':=t) (ch:=[]) un bA bare (fun b z=>absurd z (by simp)),r,q⟩
end
def LO (sp:Sp) (Dj:List V) (E:XK) (t:TA):TE:=fun σ H Q=>t σ H fun vs H1=>sp (vs ++ Dj) H1 Q E
def Binds (K:PySem.W.Frag) (fd:FuncData) (ps:List Str) (ds:List Value):Prop :=
 ∀ (s:Shared) (us:List Value),K.In s.heap→(us ++ ds).length=ps.length→BindsTo s fd ⟨us,[]⟩ (ps.zip (us ++ ds))
theorem Binds.all {K:PySem.W.Frag} {fd:FuncData} {ps:List Str} (h:∀ us:List Value,us.length=ps.length→bindArgs fd ⟨us,[]⟩=pure (ps.zip us)):Binds K fd ps []:=fun s us _ hl=>by
 rw [CY] at hl ⊢
 exact .of_eq (h us hl)
def Passes (CX:wZ) (X:Cx) (E:XK):Prop:=∀ (pins:List (Addr×Obj)) (σ:St) (H:Hp) (s:Shared) (e:Value) (s':Shared),Inv X pins σ H s→CX X.stack H s E e s'→X.xe e s'
section
variable {X:Cx} {CX:wZ} {k:Nat} {f C:Addr} {fd:FuncData} {ps:List Str} {sp:Sp} {Dj:List V} {ds:List Value} {E:XK} {x m:Str} {p pos apos:Pos} {e o:Expr} {es:List Expr} {ta:TE} {t:TA}
theorem Ap {pins:List (Addr×Obj)} {σ:St} {H:Hp} {s:Shared} {Q:VK} {us:List Value} {vs:List V} (F:dX X.prog X.w X.K X.mg X.base CX k f fd ps sp) (hr:bP k X.A) (hb:Binds X.K fd ps ds) (hd:Vals Dj ds) (hx:Passes CX X E)
  (I:Inv X pins σ H s) (r:Vals vs us) (h:sp (vs ++ Dj) H Q E):wpAny (model X.prog X.w) X.A (call (.ref f) us) (EP X pins σ Q) X.xe s:=by
 have r2:Vals (vs ++ Dj) (us ++ ds):=r.append hd
 have hl:(us ++ ds).length=ps.length:=by rw [← r2.length]; exact F.len _ _ _ _ h
 refine wpAny_call (codeAny_mono (F.run X.A X.stack s H ⟨us,[]⟩ (us ++ ds) (vs ++ Dj) Q E hr I.RA (hb s us I.uR hl) r2 h) fun r s' hq=>?_)
 cases r with
 | error e=>exact hx pins σ H s e s' I hq
 | ok fl =>
   cases fl with
   | ret u=>exact I.after hq
   | _=>exact False.elim hq
theorem qg (F:dX X.prog X.w X.K X.mg X.base CX k f fd ps sp) (hr:bP k X.A) (hg:Gl X x) (hm:X.mg x=some (.ref f)) (hk:PySem.W.keepIn X.K (.ref f)=true) (hb:Binds X.K fd ps ds) (hd:Vals Dj ds) (hx:Passes CX X E)
  (ha:PA X (e :: es) t) (u4:(x == ("__debug__" : Str))=false:=by decide) (he:starEach (e :: es) X.env=(false,eval e X.env) :: starEach es X.env:=by rfl) (jU:(backTo pos (starEach es X.env)).any (·.1)=false:=by rfl) :
  PE X (.Call (.Name x p) (e :: es) [] pos) (LO sp Dj E t):=by
 intro pins s σ H Q I h
 refine wpAny_Call_Name_kw (wW I hg hm ?_ u4)
 refine PySem.W.callWith_K (h₀:=X.base) I.ok.mod.P7 hk (cf (ha pos pins s σ H _ I h) fun us s1 ⟨vs,H1,I1,r,q⟩=>⟨I1.uR,?_⟩) he jU
 exact Ap F hr hb hd hx I1 r q
structure Mk (K:PySem.W.Frag) (C f:Addr):Prop where
 makes:PySem.W.makesIn K C=true
 init:PySem.W.findIn K (.ref C) "__init__" = some (some (.ref f))
 fn:PySem.W.isFn K (.ref f)=true
 kp:PySem.W.keepIn K (.ref C)=true
end
section
variable {X:Cx} {CX:wZ} {k:Nat} {f C:Addr} {fd:FuncData} {ps ks:List Str} {sp:Sp} {E:XK} {x m:Str} {p pos apos RB:Pos} {e o:Expr} {es:List Expr} {V9:List Keyword} {te ta:TE} {t tk:TA} {nm:Option Str}
variable {g:List Value→List Value→List Value} {gV:List V→List V→List V}
end
structure aE (N P:List Str) (sc:Scope):Prop where
 kind:sc.kind = .function
 co:sc.isCoroutine=false
 gen:sc.isGenerator=false
 nd:N.Nodup
 pre:N.take P.length=P
 par:∀ x∈P,sc.names.lookup x=some .local∨sc.names.lookup x=some .cell
 Hr:∀ y∈sc.names,y.2≠.free
theorem pk {kindOf:Str→Option NameKind} {x:Str}:∀ {binds:List (Str×Value)} {m:Str→Option Value},(∀ v,(x,v)∉binds)→bindL kindOf binds m x=m x
 | [],_,_=>rfl
 | (n,v) :: r,m,h=>by
   unfold bindL
   rw [pk fun w hw=>h w (g9 _ hw)]
   split
   · have:x≠n:=by rintro rfl; exact h v eW
     simp [this]
   · rfl
theorem pq {kindOf:Str→Option NameKind} {x:Str}:∀ {binds:List (Str×Value)} {m:Str→Option Value},(∀ v,(x,v)∉binds)→bindC kindOf binds m x=m x
 | [],_,_=>rfl
 | (n,v) :: r,m,h=>by
   unfold bindC
   rw [pq fun w hw=>h w (g9 _ hw)]
   split
   · rfl
   · have:x≠n:=by rintro rfl; exact h v eW
     simp [this]
theorem pw {kindOf:Str→Option NameKind} {x:Str} {v:Value}:∀ {P:List Str} {vs:List Value} {i:Nat} {m:Str→Option Value},P.Nodup→P[i]?=some x→vs[i]?=some v→kindOf x=some .local →
  bindL kindOf (P.zip vs) m x=some v
 | [],_,_,_,_,h,_,_=>by simp at h
 | _ :: _,[],_,_,_,_,h,_=>by simp at h
 | p :: P,w :: vs,0,m,nd,h1,h2,hk=>by
   simp at h1 h2; subst h1; subst h2
   show bindL kindOf ((p,w) :: P.zip vs) m p=_
   unfold bindL
   rw [pk fun v hv=>(pe.mp nd).1 (List.of_mem_zip hv).1,if_pos hk]
   simp
 | p :: P,w :: vs,i+1,m,nd,h1,h2,hk=>by
   show bindL kindOf ((p,w) :: P.zip vs) m x=_
   unfold bindL
   exact pw (i:=i) (pe.mp nd).2 (by simpa using h1) (by simpa using h2) hk
theorem pA {kindOf:Str→Option NameKind} {x:Str} {v:Value}:∀ {P:List Str} {vs:List Value} {i:Nat} {m:Str→Option Value},P.Nodup→P[i]?=some x→vs[i]?=some v→kindOf x≠some .local →
  bindC kindOf (P.zip vs) m x=some v
 | [],_,_,_,_,h,_,_=>by simp at h
 | _ :: _,[],_,_,_,_,h,_=>by simp at h
 | p :: P,w :: vs,0,m,nd,h1,h2,hk=>by
   simp at h1 h2; subst h1; subst h2
   show bindC kindOf ((p,w) :: P.zip vs) m p=_
   unfold bindC
   rw [pq fun v hv=>(pe.mp nd).1 (List.of_mem_zip hv).1,if_neg hk]
   simp
 | p :: P,w :: vs,i+1,m,nd,h1,h2,hk=>by
   show bindC kindOf ((p,w) :: P.zip vs) m x=_
   unfold bindC
   exact pA (i:=i) (pe.mp nd).2 (by simpa using h1) (by simpa using h2) hk
def start (N:List Str) (vs:List V):St:=vs.map some ++ List.replicate (N.length - vs.length) none
def ib (CX:wZ) (P:Program) (w:World) (K:PySem.W.Frag) (mg:Str→Option Value) (base:Heap) (N:List Str) (qual:Str) (scope:Scope) (f:Addr) (cd:Value) (A:Around) (outer:List Env) (s:Shared) (H:Hp) (E:XK):Cx where
 prog:=P
 w:=w
 K:=K
 mg:=mg
 base:=base
 A:=A.deeper (envOfC qual scope s.heap.objs.size f cd)
 N:=N
 s₀:=s
 H₀:=H
 env:=envOfC qual scope s.heap.objs.size f cd
 outer:=outer
 stack:=envOfC qual scope s.heap.objs.size f cd :: outer
 ex:=[]
 calm:=true
 fn:=fun _=>true
 pn:=[]
 xe:=fun e s'=>wpAny (model P w) (A.deeper (envOfC qual scope s.heap.objs.size f cd)) (leaving (envOfC qual scope s.heap.objs.size f cd) e) (fun _ LP=>CX outer H s E e LP) (fun e' LP=>CX outer H s E e' LP) s'
theorem sf {sc:Scope} {n:Nat} {x:Str} (h:sc.names.lookup x=some .cell):∃ c,(cellsFrom n sc.names []).lookup x=some c:=by
 have q:=PySem.W.cellsFrom_some sc.names n [] (.inl h)
 exact Option.isSome_iff_exists.mp q
theorem ye {CX:wZ} {P:Program} {w:World} {K:PySem.W.Frag} {mg:Str→Option Value} {base:Heap} {N ps:List Str} {qual:Str} {scope:Scope} {f:Addr} {cd:Value} {A:Around} {outer:List Env} {s s1:Shared} {H:Hp} {E:XK} {us:List Value} {vs:List V}
  (S:aE N ps scope) (hd:A.handled=none) (e0:u3 P w K mg base A outer s H) (hl:vs.length=ps.length) (r:Vals vs us)
  (x:InCallC s s.heap.objs.size (bindL (envOfC qual scope s.heap.objs.size f cd).kindOf (ps.zip us) fun _=>none) (cellsFrom (s.heap.objs.size+1) scope.names []) (bindC (envOfC qual scope s.heap.objs.size f cd).kindOf (ps.zip us) fun _=>none) s1) :
  Inv (ib CX P w K mg base N qual scope f cd A outer s H E) [] (start N vs) H s1:=by
 have jU:ps.length≤N.length:=by have:=congrArg List.length S.pre; rw [Fz] at this; omega
 obtain ⟨h1,tk,rfl,hk⟩:=x.done
 have LQ:∀ b:Addr,b∉(ib CX P w K mg base N qual scope f cd A outer s H E).ex:=fun b z=>absurd (show b∈([]:List Addr) from z) (by simp)
 refine ⟨⟨e0.mod,S.kind,rfl,rfl,dH _,fun y z c h1 h2=>?_,fun y hy=>?_,fun y c _ h=>?_,fun _=>hd,Around.frames_deeper e0.frames,.inr ⟨rfl,rfl⟩,fun b z=>absurd z (LQ b),e0.bs,e0.CG,fun b _ _=>LQ b,fun b z=>absurd z (LQ b),e0.kX,e0.GY⟩,
  rfl,e0.bare,Un.kept hk,⟨_,x.toInCall.ns,fun i y v h1 h2 h3=>?_⟩,fun y c h=>⟨_,x.cell y c h⟩,e0.bA.fresh (dH _),fun y c h=>?_,fun p hp=>absurd (show p∈([]:List (Addr×Obj)) from hp) (by simp),e0.bA.kept hk,?_⟩
 · exact name_of_addr x.apart (Fx h1) (Fx h2)
 · have hy:scope.names.lookup y=some .cell∨scope.names.lookup y=some .free:=hy
   rcases hy with hy | hy
   · exact sf hy
   · exact absurd rfl (S.Hr _ (Fx hy))
 · exact Nat.le_of_lt (x.above y c (Fx h))
 · have hi:i < vs.length:=by
    unfold start at h2
    by_cases hi:i < vs.length
    · exact hi
    · rw [wN (by simpa using hi)] at h2
      rw [Fv] at h2
      split at h2 <;> cases h2
   have ha:vs[i]?=some v:=by
    unfold start at h2
    rw [qc (by simpa using hi),oa] at h2
    cases e:vs[i]? with
    | none=>rw [e] at h2; cases h2
    | some a=>rw [e] at h2; cases h2; rfl
   obtain ⟨u,hu,rv⟩:=r.get ha
   have hp:ps[i]?=some y:=by
    rw [← S.pre,List.getElem?_take_of_lt (by omega)]; exact h1
   have U2:ps.Nodup:=by rw [← S.pre]; exact S.nd.sublist (List.take_sublist _ _)
   refine ⟨u,rv,?_⟩
   rcases S.par y (jO hp) with k | k
   · exact .inl ⟨k,pw U2 hp hu k⟩
   · obtain ⟨c,e⟩:=sf (n:=s.heap.objs.size+1) k
     refine .inr ⟨.inl k,c,e,?_⟩
     have q:=x.cell y c e
     rw [pA U2 hp hu (by show scope.names.lookup y≠_; rw [k]; decide)] at q
     exact q
 · exact e0.bA.fresh (Nat.le_of_lt (x.above y c (Fx h)))
 · unfold start
   show _=N.length
   rw [kS,bU,CW]
   omega
theorem LR {CX:wZ} {P:Program} {w:World} {K:PySem.W.Frag} {mg:Str→Option Value} {base:Heap} {k:Nat} {f:Addr} {name qual:Str} {params:Arguments} {body:List Stmt} {scope:Scope} {dV kV doc pm bZ ct oc:Value} {an od:Option Addr}
  {CH:Array (Option Value)} {N ps:List Str} {sp:Sp} (lk:K.lookup f=some ⟨oc,od,.func (PySem.W.fnOf name qual params body scope dV kV doc pm an bZ ct),CH⟩) (iq:PySem.W.codeIn K bZ qual=true) (S:aE N ps scope)
  (len:∀ vs H Q E,sp vs H Q E→vs.length=ps.length)
  (lY:∀ (A:Around) (outer:List Env) (s:Shared) (H:Hp) (vs:List V) (Q:VK) (E:XK),bP k (A.deeper (envOfC qual scope s.heap.objs.size f bZ))→sp vs H Q E →
    ∃ t,lz (ib CX P w K mg base N qual scope f bZ A outer s H E) body t∧t { nx:=fun _ H'=>Q .bp H',rt:=Q } (start N vs) H) :
  dX P w K mg base CX (k+1) f (PySem.W.fnOf name qual params body scope dV kV doc pm an bZ ct) ps sp:=by
 refine ⟨len,fun A outer s H args us vs Q E hr e0 hb r KH=>?_⟩
 have hl:=len _ _ _ _ KH
 have KX:K.In s.heap:=e0.mod.P7.keeps fun b o e=>(e0.bs b o e).1
 have lim:s.heap.NoLimit:=e0.mod.nolimit.keeps fun b o e=>(e0.bs b o e).1
 have LS:∀ y∈ps.zip us,scope.names.lookup y.1=some .local∨(scope.names.lookup y.1=some .cell∧((cellsFrom (s.heap.objs.size+1) scope.names []).lookup y.1).isSome=true):=fun ⟨n,v⟩ hy=>by
  rcases S.par n (List.of_mem_zip hy).1 with q | q
  · exact .inl q
  · exact .inr ⟨q,PySem.W.cellsFrom_some _ _ _ (.inl q)⟩
 refine codeAny_call_function hr.depth (KX _ _ lk) rfl S.co S.gen rfl (PySem.W.codeRec_of KX iq) (hb _ _ _ _ ?_)
 refine wpAny_newFunctionEnv_cells S.kind LS fun env he s1 x=>?_
 subst he
 refine ⟨lim.keeps x.toInCall.keep,codeAny_func ?_⟩
 obtain ⟨t,ht,hq⟩:=lY A outer s H vs Q E (hr.deeper _) KH
 have I:Inv (ib CX P w K mg base N qual scope f bZ A outer s H E) [] (start N vs) H s1:=ye S hr.hd e0 hl r x
 refine wpAny_mono (ht [] s1 (start N vs) H _ I hq) (fun fl s' hs=>?_) fun e s' hs=>hs
 have fin:∀ {σ':St} {H':Hp} {v:V} {u:Value},Inv (ib CX P w K mg base N qual scope f bZ A outer s H E) [] σ' H' s'→RelV v u→Q v H'→CE outer P w H s Q u s' :=
  fun {σ' H' v u} J rv q=>⟨v,H',J.os,J.bare,J.base,J.bA,rv,q⟩
 cases fl with
 | ret u =>
   obtain ⟨v,σ',H',J,rv,q⟩:=hs
   exact fin J rv q
 | next =>
   obtain ⟨σ',H',J,q⟩:=hs
   exact fin (v:=V.bp) (u:=Value.none) J rfl q
 | brk =>
   obtain ⟨_,_,_,q⟩:=hs
   exact False.elim q
 | cont =>
   obtain ⟨_,_,_,q⟩:=hs
   exact False.elim q
section
variable {X:Cx} {x:Str} {p pos:Pos} {e:Expr} {es:List Expr} {t:TA} {id T:String} {r:List V→Hp→VK→Prop}
def U3 (r:List V→Hp→VK→Prop) (t:TA):TE:=fun σ H Q=>t σ H fun vs H1=>r vs H1 Q
theorem lZ (hc:cM X (.builtin id) r) (hg:Gl X x) (hm:X.mg x=none) (hv:bootBuiltins x=some (.builtin id)) (ha:PA X (e :: es) t) (hn:x≠"__name__":=by decide) (u4:(x == ("__debug__" : Str))=false:=by decide)
  (he:starEach (e :: es) X.env=(false,eval e X.env) :: starEach es X.env:=by rfl) (jU:(backTo pos (starEach es X.env)).any (·.1)=false:=by rfl):PE X (.Call (.Name x p) (e :: es) [] pos) (U3 r t):=by
 intro pins s σ H Q I h
 refine wpAny_Call_Name_kw (jQ I hg hm hv ?_ hn u4)
 exact PyProof.Rows.callWith_builtin1 (cf (ha pos pins s σ H _ I h) fun us s1 ⟨vs,H1,I1,r1,q1⟩=>hc pins s1 σ H1 vs us Q I1 r1 q1) he jU
theorem pB (hc:cM X (.type T) r) (hg:Gl X x) (hm:X.mg x=none) (hv:bootBuiltins x=some (.type T)) (ha:PA X (e :: es) t) (hn:x≠"__name__":=by decide) (u4:(x == ("__debug__" : Str))=false:=by decide)
  (he:starEach (e :: es) X.env=(false,eval e X.env) :: starEach es X.env:=by rfl) (jU:(backTo pos (starEach es X.env)).any (·.1)=false:=by rfl):PE X (.Call (.Name x p) (e :: es) [] pos) (U3 r t):=by
 intro pins s σ H Q I h
 refine wpAny_Call_Name_kw (jQ I hg hm hv ?_ hn u4)
 exact PK (cf (ha pos pins s σ H _ I h) fun us s1 ⟨vs,H1,I1,r1,q1⟩=>hc pins s1 σ H1 vs us Q I1 r1 q1) he jU
end
end L2
namespace HT
open PySem PyProof.Rows
section
open PySem.SeqAt
open PySem.AutoSeq1 (wpAny_loadPart')
open PySem.MeetsSeq PySem.MeetsSeq2 PySem.MeetsSeq3
end
section
variable {prog:Program} {w:World} {A:Around} {E:Value→Shared→Prop} {s:Shared}
theorem Dk {t b:Addr} {vs ws:List Value} {Q:Value→Shared→Prop} (ht:IsTup s.heap t vs.toArray) (hb:IsTup s.heap b ws.toArray) (hv:vs≠[])
  (h1:ws=[]→Q (.ref t) s) (h2:ws≠[]→Q (.ref s.heap.objs.size) { s with heap:=s.heap.push { cls:=.type "tuple",data:=.seq (vs ++ ws).toArray } })
  (zP:vs.length+ws.length≤sizeLine):wpAny (model prog w) A (binaryOp .Add (.ref t) (.ref b)) Q E s:=by
 obtain ⟨⟨cls,dd,data,sl⟩,ho,hc,n,hd⟩:=id ht
 obtain ⟨⟨LU,KI,data2,KJ⟩,zQ,zR,n2,hd2⟩:=id hb
 simp only at hc hd zR hd2
 subst hc hd zR hd2
 have e:vs.toArray ++ ws.toArray=(vs ++ ws).toArray:=by simp
 by_cases hw:ws=[]
 · exact concat_meets ⟨_,ho,rfl⟩ ⟨_,zQ,rfl⟩ noFill_tuple_add seq_tuple_add QT QO (QM _ _)
    (tuple_addW1 t b vs.toArray ws.toArray n n2 dd KI sl KJ (by simpa using hv) (by simp [hw])) ⟨ho,zQ,h1 hw⟩
 · refine concat_meets ⟨_,ho,rfl⟩ ⟨_,zQ,rfl⟩ noFill_tuple_add seq_tuple_add QT QO (QM _ _)
    (tuple_addW2 t b vs.toArray ws.toArray n n2 dd KI sl KJ (by simpa using hv) (by simpa using hw) (by rw [fq,fq]; exact zP)) ⟨ho,zQ,?_⟩
   rw [e]
   exact h2 hw
def cX (n d:Nat):Option Int→Nat
 | none=>d
 | some v=>if v < 0 then (v+(n:Int)).toNat else min v.toNat n
theorem l6 (n d:Nat):cX n d none=d:=rfl
theorem g_ (n d k:Nat):cX n d (some (k:Int))=min k n:=by
 show (if (k:Int) < 0 then ((k:Int)+(n:Int)).toNat else min (k:Int).toNat n)=min k n
 rw [if_neg (by omega),Fy]
theorem Hs (n d:Nat) (hd:d≤n) (o:Option Int):cX n d o≤n:=by
 cases o with
 | none=>exact hd
 | some v =>
   show (if v < 0 then (v+(n:Int)).toNat else min v.toNat n)≤n
   by_cases hv:v < 0
   · rw [if_pos hv]; omega
   · rw [if_neg hv]; exact Nat.min_le_right _ _
theorem w6 (v:Int) (n d:Nat):(if v < 0 then max (v+(n:Int)) 0 else min v (n:Int))=((cX n d (some v):Nat):Int):=by
 show (if v < 0 then max (v+(n:Int)) 0 else min v (n:Int))=(((if v < 0 then (v+(n:Int)).toNat else min v.toNat n):Nat):Int)
 by_cases hv:v < 0
 · simp only [if_pos hv]; omega
 · simp only [if_neg hv]; omega
theorem u5 (lo hi:Option Int) (n:Nat):Builtin.Slice.sliceAdjust lo hi 1 (n:Int)=(((cX n 0 lo:Nat):Int),((cX n n hi:Nat):Int)):=by
 have h1:¬ ((1:Int) < 0):=by omega
 unfold Builtin.Slice.sliceAdjust
 simp only [h1,if_false]
 refine Prod.ext ?_ ?_
 · cases lo with
   | none=>rfl
   | some v=>exact w6 v n 0
 · cases hi with
   | none=>rfl
   | some v=>exact w6 v n n
theorem u6 (i j:Nat):Builtin.Slice.slicePlaces (i:Int) (j:Int) 1=j - i:=by
 unfold Builtin.Slice.slicePlaces
 have h1:(1:Int) > 0:=by omega
 simp only [h1,if_true,Int.ediv_one]
 split <;> omega
theorem l7 {v:Value} {o:Option Int} {Q:Option Int→Shared→Prop} (p:IsPart v o) (h:Q o s):wpAny (model prog w) A (Builtin.Slice.slicePartIndex v) Q E s:=by
 cases p with
 | none=>exact slicePart_none h
 | int i t=>exact slicePart_int h
theorem jV {sl:Addr} {vl vu:Value} {lo hi:Option Int} {n:Nat} {Q:Int×Int×Nat→Shared→Prop} (hs:s.heap.IsSliceOf sl vl vu .none) (pl:IsPart vl lo) (pu:IsPart vu hi)
  (h:Q (((cX n 0 lo:Nat):Int),1,cX n n hi - cX n 0 lo) s):wpAny (model prog w) A (Builtin.Slice.sliceApplied (.ref sl) (pure (n:Int))) Q E s:=by
 obtain ⟨os,LV,U4,Qb⟩:=id hs
 unfold Builtin.Slice.sliceApplied Builtin.Slice.sliceFields
 refine wpAny_bind (wpAny_bind (wpAny_field LV Qb (x:=vl) rfl (wpAny_bind (wpAny_field LV Qb (x:=vu) rfl (wpAny_bind (wpAny_field LV Qb (x:=.none) rfl (wpAny_pure ?_)))))))
 refine wpAny_bind (slicePart_none ?_)
 show wpAny _ _ (if ((1:Int) == 0)=true then _ else _) _ _ s
 rw [if_neg (by decide)]
 refine wpAny_bind (l7 pl (wpAny_bind (l7 pu (wpAny_bind (wpAny_pure ?_)))))
 show wpAny _ _ (match Builtin.Slice.sliceAdjust lo hi 1 (n:Int) with | (lo,hi)=>pure (lo,(1:Int),Builtin.Slice.slicePlaces lo hi 1)) _ _ s
 rw [u5 lo hi n]
 show wpAny _ _ (pure (((cX n 0 lo:Nat):Int),(1:Int),Builtin.Slice.slicePlaces ((cX n 0 lo:Nat):Int) ((cX n n hi:Nat):Int) 1)) _ _ s
 rw [u6]
 exact wpAny_pure h
theorem Aq (xs:Array Value) (i k:Nat):((List.range k).filterMap fun (m:Nat)=>xs[((i:Int)+(m:Int) * 1).toNat]?).toArray=((xs.toList.drop i).take k).toArray:=by
 have e:(fun (m:Nat)=>xs[((i:Int)+(m:Int) * 1).toNat]?)=fun m=>xs[i+m]?:=by
  funext m
  have:((i:Int)+(m:Int) * 1).toNat=i+m:=by omega
  rw [this]
 rw [e]
 have:=pick_run xs i k
 rw [Ld] at this
 have e2:((fun x=>xs[x]?) ∘ fun x=>i+x)=fun m=>xs[i+m]?:=rfl
 rw [e2] at this
 rw [this]
theorem iY {t sl:Addr} {items:Array Value} {vl vu:Value} {lo hi:Option Int} {Q:Value→Shared→Prop} (ht:IsTup s.heap t items) (hs:s.heap.IsSliceOf sl vl vu .none) (pl:IsPart vl lo) (pu:IsPart vu hi)
  (hw:¬ (cX items.size 0 lo=0∧cX items.size items.size hi=items.size))
  (h:Q (.ref s.heap.objs.size) { s with heap:=s.heap.push { cls:=.type "tuple",data:=.seq ((items.toList.drop (cX items.size 0 lo)).take (cX items.size items.size hi - cX items.size 0 lo)).toArray } })
  (zP:items.size≤sizeLine):wpAny (model prog w) A (getItem (.ref t) (.ref sl)) Q E s:=by
 have w9:sizeOk (.seq ((items.toList.drop (cX items.size 0 lo)).take (cX items.size items.size hi - cX items.size 0 lo)).toArray):=by
  show ((items.toList.drop (cX items.size 0 lo)).take (cX items.size items.size hi - cX items.size 0 lo)).toArray.size≤sizeLine
  rw [fq,Fz,Kv,Fw]
  omega
 have hj:cX items.size items.size hi≤items.size:=Hs _ _ (dH _) hi
 obtain ⟨os,LV,U4,Qb⟩:=id hs
 have V_:s.TypeIs (.ref sl) "slice":=⟨os,LV,U4⟩
 unfold getItem
 try with_reducible refine wpAny_holding ?_
 first | refine wpAny_bind (wpAny_pure ?_) | skip
 refine wpAny_bind (wpAny_sequenceKey ht.typeIs (by decide) ?_)
 refine wpAny_bind (wpAny_callSpecial?_slot (name:=Str.ofString "__getitem__") ht.typeIs QJ
  (wpAny_call_entry QJ ht.typeIs entry_tuple_getitem ?_ (args_tuple_getitem _ _)))
 show wpAny _ _ (Builtin.Tuple.tupleItemsOf (.ref t) >>= _) _ _ s
 refine wpAny_bind (tupleItemsOf_ ht ?_)
 refine wpAny_bind (wpAny_typeOf V_ ?_)
 rw [if_pos (by decide)]
 refine wpAny_bind (jV hs pl pu ?_)
 have V':¬ ((((cX items.size 0 lo:Nat):Int) == 0 && (1:Int) == 1 && (cX items.size items.size hi - cX items.size 0 lo) == items.size)=true):=by
  intro q
  rw [il,il] at q
  have q1:((cX items.size 0 lo:Nat):Int)=0:=eq_of_beq q.1.1
  have q2:cX items.size items.size hi - cX items.size 0 lo=items.size:=eq_of_beq q.2
  exact hw ⟨by omega,by omega⟩
 show wpAny _ _ (if (((cX items.size 0 lo:Nat):Int) == 0 && (1:Int) == 1 && (cX items.size items.size hi - cX items.size 0 lo) == items.size)=true then _ else _) _ _ s
 rw [if_neg V',Aq]
 first
  | exact wpAny_bind (m:=Builtin.Tuple.tupleExact _) (wpAny_newObj_type (wpAny_pure ⟨_,rfl,wpAny_pure h⟩) w9)
  | exact wpAny_bind (m:=Builtin.Tuple.tupleExact _) (wpAny_newObj_type (wpAny_bind (wpAny_pure (wpAny_pure ⟨_,rfl,wpAny_pure h⟩))) w9)
  | exact wpAny_bind (wpAny_bind (m:=Builtin.Tuple.tupleExact _) (wpAny_newObj_type (wpAny_pure (wpAny_pure ⟨_,rfl,wpAny_pure h⟩)) w9))
  | exact wpAny_bind (wpAny_bind (m:=Builtin.Tuple.tupleExact _) (wpAny_newObj_type (wpAny_pure ⟨_,rfl,wpAny_pure h⟩) w9))
end
end HT
namespace L2
open PySem PySem.Spec PyProof.Rows
abbrev TO:=St→Hp→(Option Int→Hp→Prop)→Prop
def PO (X:Cx) (e:Option Expr) (t:TO):Prop :=
 ∀ (pins:List (Addr×Obj)) (s:Shared) (σ:St) (H:Hp) (Q:Option Int→Hp→Prop),Inv X pins σ H s→t σ H Q →
  wpAny (model X.prog X.w) X.A (evalPart e X.env) (fun u s'=>∃ o H',Inv X pins σ H' s'∧IsPart u o∧Q o H') X.xe s
def Dl:TO:=fun _ H Q=>Q none H
def LW (t:TE):TO:=fun σ H Q=>t σ H fun x H1=>∃ i,x = .int i∧Q (some i) H1
theorem intsAre_of {ns:List Int}:∀ {us:List Value},Vals (ns.map V.int) us→IntsAre us ns:=by
 induction ns with
 | nil=>intro us r; rw [FH] at r; cases r; exact .nil
 | cons n ns ih =>
   intro us r
   rw [fu] at r
   cases r with
   | cons r1 r2 =>
     obtain ⟨t,e⟩:=r1
     subst e
     exact .cons n t (ih r2)
section
variable {X:Cx} {e:Expr} {te:TE} {lo hi:Option Expr} {tl th:TO} {pos p2:Pos}
theorem Dm:PO X none Dl:=by
 intro pins s σ H Q I h
 rw [evalPart_none]
 exact wpAny_pure ⟨none,H,I,.none,h⟩
theorem Dn (h:PE X e te):PO X (some e) (LW te):=by
 intro pins s σ H Q I hw
 rw [evalPart_some]
 refine cf (h pins s σ H _ I hw) fun u s1 ⟨x,H1,I1,r1,q1⟩=>?_
 obtain ⟨i,rfl,q⟩:=q1
 obtain ⟨t,rfl⟩:=r1
 exact ⟨some i,H1,I1,.int i t,q⟩
def Ar (X:Cx) (r:V→Option Int→Option Int→Hp→VK→Prop):Prop :=
 ∀ (pins:List (Addr×Obj)) (s:Shared) (σ:St) (H:Hp) (x:V) (v vl vu:Value) (lo hi:Option Int) (sl:Addr) (Q:VK),Inv X pins σ H s→RelV x v→s.heap.IsSliceOf sl vl vu .none→IsPart vl lo→IsPart vu hi→r x lo hi H Q →
  ∃ T id,typeLookup (.type T) "__getitem__" = pure (some (.builtin id))∧s.TypeIs v T∧wpAny (model X.prog X.w) X.A (getItem v (.ref sl)) (EP X pins σ Q) X.xe s
theorem Ar.or {r r':V→Option Int→Option Int→Hp→VK→Prop} (h:Ar X r) (h':Ar X r'):Ar X (fun x lo hi H Q=>r x lo hi H Q∨r' x lo hi H Q):=by
 intro pins s σ H x v vl vu lo hi sl Q I rx hs pl pu q
 rcases q with q | q
 · exact h pins s σ H x v vl vu lo hi sl Q I rx hs pl pu q
 · exact h' pins s σ H x v vl vu lo hi sl Q I rx hs pl pu q
def Wa (r:V→Option Int→Option Int→Hp→VK→Prop) (te:TE) (tl th:TO):TE:=fun σ H Q=>te σ H fun x H1=>tl σ H1 fun l H2=>th σ H2 fun u H3=>r x l u H3 Q
theorem As {r:V→Option Int→Option Int→Hp→VK→Prop} (hr:Ar X r) (he:PE X e te) (hl:PO X lo tl) (hu:PO X hi th):PE X (.Subscript e (.Slice lo hi none p2) pos) (Wa r te tl th):=by
 intro pins s σ H Q I h
 refine Subscript_ (cf (he pins s σ H _ I h) fun v s1 ⟨x,H1,I1,r1,q1⟩=>?_)
 refine wpAny_Slice (cf (hl pins s1 σ H1 _ I1 q1) fun vl s2 ⟨l,H2,I2,pl,q2⟩=>cf (hu pins s2 σ H2 _ I2 q2) fun vu s3 ⟨u,H3,I3,pu,q3⟩=>?_)
 rw [evalPart_none]
 refine wpAny_pure ?_
 have I4:Inv X pins σ H3 { s3 with heap:=s3.heap.push { cls:=.type "slice",data:=.fields #[vl,vu,.none] } }:=I3.kept (t':=s3.toks) fun b ob q=>d_ _ q
 obtain ⟨T,id,hT,ht,hg⟩:=hr pins { s3 with heap:=s3.heap.push { cls:=.type "slice",data:=.fields #[vl,vu,.none] } } σ H3 x v vl vu l u s3.heap.objs.size Q I4 r1 (Heap.IsSliceOf.new ..) pl pu q3
 show wpAny (model X.prog X.w) X.A (subscriptTail e (.Slice lo hi none p2) v (.ref s3.heap.objs.size)) (EP X pins σ Q) X.xe { s3 with heap:=s3.heap.push { cls:=.type "slice",data:=.fields #[vl,vu,.none] } }
 exact tail_any (ops:=[.ref s3.heap.objs.size,v]) ht hT hg (by with_unfolding_all rfl)
def sg (xs:List V) (lo hi:Option Int):List V:=(xs.drop (HT.cX xs.length 0 lo)).take (HT.cX xs.length xs.length hi - HT.cX xs.length 0 lo)
theorem kG (xs:List V) (lo hi:Option Int):(sg xs lo hi).length≤xs.length:=by
 unfold sg
 rw [Fz,Kv]
 omega
def LX (K:PySem.W.Frag):V→Option Int→Option Int→Hp→VK→Prop:=fun x lo hi H Q=>∃ a xs,x = .ref a∧dq K H a xs ∧
 ¬ (HT.cX xs.length 0 lo=0∧HT.cX xs.length xs.length hi=xs.length)∧∀ p,H p=none→Q (.ref p) (upd H p (.tup (sg xs lo hi)))
theorem Ht:Ar X (LX X.K):=by
 intro pins s σ H x v vl vu lo hi sl Q I rx hs pl pu h
 obtain ⟨a,xs,rfl,hx,hw,q⟩:=h
 cases rx
 obtain ⟨aJ,r,ht,hz⟩:=I.tuple hx
 have hlen:aJ.toArray.size=xs.length:=by rw [fq]; exact r.length.symm
 refine ⟨"tuple",_,QJ.lookup,ht.typeIs,?_⟩
 refine HT.iY ht hs pl pu (by rw [hlen]; exact hw) ?_ (by rw [hlen]; exact hz)
 rw [hlen]
 refine ⟨.ref s.heap.objs.size,_,I.laid (t':=s.toks) (o:=.tup (sg xs lo hi)) (fun b ob q=>d_ _ q) (dH _) ?_,rfl,q _ (I.bA.fresh (dH _))⟩
 exact ⟨kF (kG xs lo hi) hz,_,(r.drop (HT.cX xs.length 0 lo)).take (HT.cX xs.length xs.length hi - HT.cX xs.length 0 lo),IsTup.new _ _⟩
theorem Vals.lC {xs:List V} {us:List Value} (r:Vals xs us):us=[]↔xs=[]:=by
 cases r with
 | _=>simp
end
def w_ (n:Nat) (i:Int):Option Nat:=if 0≤i then (if i < n then some i.toNat else none) else if -(n:Int)≤i then some (i+n).toNat else none
def jW {α:Type} (xs:List α) (i:Int):Option α:=(w_ xs.length i).bind fun j=>xs[j]?
theorem xa {n:Nat} {i:Int} {j:Nat} (h:w_ n i=some j):seqIndex? i n=some j∧j < n∧-(n:Int)≤i∧i < n:=by
 unfold w_ at h
 by_cases h0:0≤i
 · rw [if_pos h0] at h
   by_cases h1:i < n
   · rw [if_pos h1] at h
     have e:i.toNat=j:=Option.some.inj h
     exact ⟨by rw [seqIndex_of h0 h1,e],by omega,by omega,h1⟩
   · rw [if_neg h1] at h; cases h
 · rw [if_neg h0] at h
   by_cases h1 : -(n:Int)≤i
   · rw [if_pos h1] at h
     have e:(i+n).toNat=j:=Option.some.inj h
     exact ⟨by rw [seqIndex_neg (by omega) h1,e],by omega,h1,by omega⟩
   · rw [if_neg h1] at h; cases h
theorem qh {α:Type} {xs:List α} {i:Int} {v:α} (h:jW xs i=some v):∃ j,seqIndex? i xs.length=some j∧xs[j]?=some v∧j < xs.length∧-(xs.length:Int)≤i∧i < xs.length:=by
 unfold jW at h
 cases e:w_ xs.length i with
 | none=>rw [e] at h; cases h
 | some j =>
   rw [e] at h
   obtain ⟨h1,h2,h3,h4⟩:=xa e
   exact ⟨j,h1,h,h2,h3,h4⟩
theorem aG {α:Type} {xs:List α} {j:Nat} {v:α} (h:xs[j]?=some v):jW xs (j:Int)=some v:=by
 have hj:j < xs.length:=(h9.mp h).1
 have e:w_ xs.length (j:Int)=some j:=by
  unfold w_
  rw [if_pos (by omega),if_pos (by omega)]; simp
 unfold jW; rw [e]; exact h
theorem si {α:Type} (xs:List α) (v:α):jW (xs ++ [v]) (-1)=some v:=by
 have hl:(xs ++ [v]).length=xs.length+1:=by simp
 have e:w_ (xs ++ [v]).length (-1)=some xs.length:=by
  unfold w_
  rw [hl,if_neg (by decide),if_pos (by omega)]
  congr 1
  omega
 unfold jW
 rw [e]
 show (xs ++ [v])[xs.length]?=some v
 simp
def xb (b:Expr):Prop:=∀ o i,subscripted b false o i=operate [o,i] (getItem o i)
def Dp (X:Cx) (r:R2):Prop :=
 ∀ (value slice:Expr) (pins:List (Addr×Obj)) (s:Shared) (σ:St) (H:Hp) (x y:V) (v u:Value) (Q:VK),Inv X pins σ H s→RelV x v→RelV y u→r x y H Q →
  subscripted slice false v u=operate [v,u] (getItem v u)→wpAny (model X.prog X.w) X.A (subscriptTail value slice v u) (EP X pins σ Q) X.xe s
def zS (X:Cx) (id:String) (r:V→List V→Hp→VK→Prop):Prop :=
 ∀ (pins:List (Addr×Obj)) (s:Shared) (σ:St) (H:Hp) (x:V) (xs:List V) (v:Value) (us:List Value) (Q:VK),Inv X pins σ H s→RelV x v→Vals xs us→r x xs H Q →
  wpAny (model X.prog X.w) X.A (call (.builtin id) (v :: us)) (EP X pins σ Q) X.xe s
section
variable {X:Cx} {a b:Expr} {ta tb:TE} {pos:Pos}
theorem Dp.or {r r':R2} (h:Dp X r) (h':Dp X r'):Dp X (fun x y H Q=>r x y H Q∨r' x y H Q):=by
 intro value slice pins s σ H x y v u Q I rx ry q hs
 rcases q with q | q
 · exact h value slice pins s σ H x y v u Q I rx ry q hs
 · exact h' value slice pins s σ H x y v u Q I rx ry q hs
theorem zS.or {id:String} {r r':V→List V→Hp→VK→Prop} (h:zS X id r) (h':zS X id r'):zS X id (fun x xs H Q=>r x xs H Q∨r' x xs H Q):=by
 intro pins s σ H x xs v us Q I rx rs q
 rcases q with q | q
 · exact h pins s σ H x xs v us Q I rx rs q
 · exact h' pins s σ H x xs v us Q I rx rs q
theorem LY {r:R2} (hr:Dp X r) (ha:PE X a ta) (hb:PE X b tb) (hs:xb b):PE X (.Subscript a b pos) (LG r ta tb):=by
 intro pins s σ H Q I h
 exact Subscript_ (He ha hb I h fun v u s2 x y H2 I2 rx ry q=>hr a b pins s2 σ H2 x y v u Q I2 rx ry q (hs _ _))
def LZ (K:PySem.W.Frag):R2:=fun x y H Q=>∃ p xs i v,x = .ref p∧y = .int i∧eB K H p xs∧jW xs i=some v∧Q v H
def L0 (K:PySem.W.Frag):R2:=fun x y H Q=>∃ p xs i v,x = .ref p∧y = .int i∧dq K H p xs∧jW xs i=some v∧Q v H
def L1:R2:=fun x y H Q=>∃ z i c,x = .str z∧y = .int i∧z.length≤sizeLine∧jW z.cps.toList i=some c∧Q (.str ⟨#[c]⟩) H
theorem Dq:Dp X (LZ X.K):=by
 intro value slice pins s σ H x y v u Q I rx ry h hs
 obtain ⟨p,xs,i,z,rfl,rfl,hq,he,q⟩:=h
 cases rx
 obtain ⟨t,rfl⟩:=ry
 obtain ⟨aJ,r,pl,hz⟩:=I.list hq
 obtain ⟨j,h1,h2,h3,h4,h5⟩:=qh he
 obtain ⟨w,ew,rw'⟩:=r.get h2
 have hl:=r.length
 have hn:=jT
 have fin:EP X pins σ Q w s:=⟨z,H,I,rw',q⟩
 by_cases h0:0≤i
 · have hj:i.toNat=j:=by
    rw [seqIndex_of h0 h5] at h1
    exact Option.some.inj h1
   exact item_listR pl.isList h0 (by omega) (by rw [hj]; simpa using ew) fin hs
 · have hj:(i+(aJ.toArray.size:Int)).toNat=j:=by
    rw [seqIndex_neg (by omega) h4] at h1
    rw [fq,← hl]
    exact Option.some.inj h1
   exact subscriptTail_builtinR (x:=w) pl.isList.typeIs slot_list_getitem.lookup
    (wpAny_getItem_list_neg (Q:=fun r s'=>r=w∧EP X pins σ Q r s') pl.isList (by omega) (by rw [fq] <;> omega) (by omega) (by rw [hj]; simpa using ew) ⟨rfl,fin⟩) hs
theorem Hu:Dp X (L0 X.K):=by
 intro value slice pins s σ H x y v u Q I rx ry h hs
 obtain ⟨p,xs,i,z,rfl,rfl,hq,he,q⟩:=h
 cases rx
 obtain ⟨t,rfl⟩:=ry
 obtain ⟨aJ,r,pl,hz⟩:=I.tuple hq
 obtain ⟨j,h1,h2,h3,h4,h5⟩:=qh he
 obtain ⟨w,ew,rw'⟩:=r.get h2
 have hl:=r.length
 have hn:=jT
 have fin:EP X pins σ Q w s:=⟨z,H,I,rw',q⟩
 exact subscriptTail_builtinR (x:=w) pl.typeIs slot_tuple_getitem.lookup
  (getItem_tuple (j:=j) (Q:=fun r s'=>r=w∧EP X pins σ Q r s') pl (by omega) (by omega) (by rw [fq,← hl]; exact h1) (by simpa using ew) ⟨rfl,fin⟩) hs
theorem Hv:Dp X L1:=by
 intro value slice pins s σ H x y v u Q I rx ry h hs
 obtain ⟨z,i,c,rfl,rfl,hz,he,q⟩:=h
 obtain ⟨t,rfl⟩:=rx
 obtain ⟨t',rfl⟩:=ry
 obtain ⟨j,h1,h2,h3,h4,h5⟩:=qh he
 have hl:z.cps.toList.length=z.length:=by simp [Str.length]
 rw [hl] at h1 h4 h5
 have hn:=jT
 exact tail_any (typeIs_str s z t) slot_str_getitem.lookup (getItem_str (c:=c) (by
  have e1:decide (i < -(2 ^ 63:Int))=false:=decide_eq_false (by omega)
  have e2:decide (i ≥ 2 ^ 63)=false:=decide_eq_false (by omega)
  rw [e1,e2,Bool.or_false]) (by rw [h1]; simpa using h2) ⟨.str ⟨#[c]⟩,H,I.tok _,⟨_,rfl⟩,q⟩) hs
def U5 (K:PySem.W.Frag):R2:=fun x y H Q=>LZ K x y H Q∨L0 K x y H Q∨L1 x y H Q
theorem Hw:Dp X (U5 X.K):=Dq.or (Hu.or Hv)
theorem u7 (aJ:List Value) (n j:Nat) (u:Value):Obj.mapSeq (·.setIfInBounds j u) { cls:=.type "list",data:=.seq aJ.toArray n }={ cls:=.type "list",data:=.seq (aJ.set j u).toArray n }:=by
 simp [Obj.mapSeq]
theorem Inv.lst {pins:List (Addr×Obj)} {σ:St} {H:Hp} {s:Shared} {p:Addr} {xs:List V} (I:Inv X pins σ H s) (h:H p=some (.lst xs)) :
  ∃ (aJ:List Value) (n:Nat),Vals xs aJ∧s.heap.get? p=some { cls:=.type "list",data:=.seq aJ.toArray n }∧xs.length≤sizeLine:=by
 obtain ⟨z,aJ,n,r,e⟩:=I.bA p _ h
 exact ⟨aJ,n,r,e,z⟩
theorem Inv.Hx {pins:List (Addr×Obj)} {σ:St} {H:Hp} {s:Shared} {p:Addr} {xs ys:List V} {aJ its':List Value} {n n':Nat} {f:Obj→Obj} (I:Inv X pins σ H s) (h:H p=some (.lst xs))
  (ho:s.heap.get? p=some { cls:=.type "list",data:=.seq aJ.toArray n }) (hf:f { cls:=.type "list",data:=.seq aJ.toArray n }={ cls:=.type "list",data:=.seq its'.toArray n' }) (r:Vals ys its') (hz:ys.length≤sizeLine) (t:Nat) :
  Inv X pins σ (upd H p (.lst ys)) { s with heap:=s.heap.update p f,toks:=t }:=by
 have e:(s.heap.update p f).get? p=some { cls:=.type "list",data:=.seq its'.toArray n' }:=by
  rw [Heap.get?_update_self f ho (by rw [hf] <;> rfl),hf]
 refine I.write (x:=p) (e:=p) (by rw [h]; trivial) (.inl rfl) (fun b u hb q=>(Heap.get?_update_other _ _ (Ne.symm hb)).trans q) ⟨_,e⟩ ?_
 exact ⟨hz,its',n',r,e⟩
def L3:V→V→V→Hp→(Hp→Prop)→Prop:=fun o i v H Q=>∃ p xs k j,o = .ref p∧i = .int k∧H p=some (.lst xs)∧w_ xs.length k=some j∧Q (upd H p (.lst (xs.set j v)))
theorem set_list:LA X L3:=by
 intro pins s σ H o i v ov iv u Q I ro ri rv h
 obtain ⟨p,xs,k,j,rfl,rfl,hp,hj,q⟩:=h
 cases ro
 obtain ⟨t,rfl⟩:=ri
 obtain ⟨aJ,n,r,ho,hz⟩:=I.lst hp
 obtain ⟨h1,h2,h3,h4⟩:=xa hj
 have hl:=r.length
 have hn:=jT
 have I':Inv X pins σ (upd H p (.lst (xs.set j v))) { s with heap:=s.heap.update p (Obj.mapSeq (·.setIfInBounds j u)) } :=
  I.Hx hp ho (u7 aJ n j u) (r.set rv j) (by rw [List.length_set]; exact hz) s.toks
 by_cases h0:0≤k
 · have hk:k.toNat=j:=by
    rw [seqIndex_of h0 h4] at h1
    exact Option.some.inj h1
   exact PySem.W.ki_setAt ho h0 (by omega) (by rw [fq,← hl]; exact h4) (by rw [hk]; exact ⟨_,I',q⟩)
 · have hk:(k+(aJ.toArray.size:Int)).toNat=j:=by
    rw [seqIndex_neg (by omega) h3] at h1
    rw [fq,← hl]
    exact Option.some.inj h1
   exact PySem.W.ki_setBack ho (by omega) (by rw [fq,← hl]; exact h3) (by omega) (by rw [hk]; exact ⟨_,I',q⟩)
theorem qi (lo hi:Option Int) (n:Nat):(sliceBounds lo hi none n).1=((HT.cX n 0 lo:Nat):Int)∧(sliceBounds lo hi none n).2.1=((HT.cX n n hi:Nat):Int)∧(sliceBounds lo hi none n).2.2=1:=by
 refine ⟨?_,?_,rfl⟩
 · cases lo with
   | none=>simp [sliceBounds,HT.cX]
   | some i =>
     simp only [sliceBounds,HT.cX,Option.getD_none,show (1:Int) > 0 by decide,if_true]
     by_cases h:i < 0
     · simp only [h,if_true] <;> omega
     · simp only [h,if_false] <;> omega
 · cases hi with
   | none=>simp [sliceBounds,HT.cX]
   | some i =>
     simp only [sliceBounds,HT.cX,Option.getD_none,show (1:Int) > 0 by decide,if_true]
     by_cases h:i < 0
     · simp only [h,if_true] <;> omega
     · simp only [h,if_false] <;> omega
theorem oi (aJ:List Value) (lo hi:Option Int):slicePick aJ.toArray lo hi none=((aJ.drop (HT.cX aJ.length 0 lo)).take (HT.cX aJ.length aJ.length hi - HT.cX aJ.length 0 lo)).toArray:=by
 obtain ⟨h1,h2,h3⟩:=qi lo hi aJ.toArray.size
 unfold slicePick
 rw [h1,h2,h3]
 simp only [sliceRange_one,pick_run,fq] <;> rfl
def L4 (K:PySem.W.Frag):V→Option Int→Option Int→Hp→VK→Prop:=fun x lo hi H Q=>∃ a xs,x = .ref a∧eB K H a xs∧∀ p,H p=none→Q (.ref p) (upd H p (.lst (sg xs lo hi)))
theorem Dr:Ar X (L4 X.K):=by
 intro pins s σ H x v vl vu lo hi sl Q I rx hs pl pu h
 obtain ⟨a,xs,rfl,hx,q⟩:=h
 cases rx
 obtain ⟨aJ,r,ht,hz⟩:=I.list hx
 have hlen:=r.length
 refine ⟨"list",_,slot_list_getitem.lookup,ht.isList.typeIs,?_⟩
 refine wpAny_getItem_list_slice ht.isList hs pl pu .none (by simp) ?_ (by rw [fq] <;> omega)
 rw [oi,← hlen]
 refine ⟨.ref s.heap.objs.size,_,I.laid (t':=s.toks) (o:=.lst (sg xs lo hi)) (fun b ob q=>d_ _ q) (dH _) ?_,rfl,q _ (I.bA.fresh (dH _))⟩
 exact ⟨kF (kG xs lo hi) hz,_,0,(r.drop (HT.cX xs.length 0 lo)).take (HT.cX xs.length xs.length hi - HT.cX xs.length 0 lo),ly _ rfl⟩
def gG:V→Bool
 | .bp=>true
 | .bl _=>true
 | .int _=>true
 | .str _=>true
 | _=>false
def CI:V→V→Bool
 | .bp,.bp=>true
 | .bl a,.bl b=>a == b
 | .bl a,.int b=>(if a then 1 else 0) == b
 | .int a,.bl b=>a == (if b then 1 else 0)
 | .int a,.int b=>a == b
 | .str a,.str b=>a == b
 | _,_=>false
theorem Hy {A:Around} {s:Shared} {y x:V} {u v:Value} (ry:RelV y u) (rx:RelV x v) (fy:gG y=true) (fx:gG x=true):SeqAt.EqAt A s u v (CI y x):=by
 cases y with
 | bp =>
   cases ry
   cases x with
   | bp=>cases rx; exact SeqAt.EqAt.same _
   | bl b=>cases rx; exact SeqAt.EqAt.none_bool b
   | int b=>obtain ⟨t,rfl⟩:=rx; exact SeqAt.EqAt.none_int b t
   | str b=>obtain ⟨t,rfl⟩:=rx; exact SeqAt.EqAt.none_str b t
   | _=>exact absurd (show false=true from fx) iS
 | bl a =>
   cases ry
   cases x with
   | bp=>cases rx; exact SeqAt.EqAt.bool_none a
   | bl b=>cases rx; exact SeqAt.EqAt.bool_bool a b
   | int b=>obtain ⟨t,rfl⟩:=rx; exact SeqAt.EqAt.bool_int a b t
   | str b=>obtain ⟨t,rfl⟩:=rx; exact SeqAt.EqAt.bool_str a b t
   | _=>exact absurd (show false=true from fx) iS
 | int a =>
   obtain ⟨t',rfl⟩:=ry
   cases x with
   | bp=>cases rx; exact SeqAt.EqAt.int_none a t'
   | bl b=>cases rx; exact SeqAt.EqAt.int_bool a t' b
   | int b=>obtain ⟨t,rfl⟩:=rx; exact SeqAt.EqAt.int_int a t' b t
   | str b=>obtain ⟨t,rfl⟩:=rx; exact SeqAt.EqAt.int_str a t' b t
   | _=>exact absurd (show false=true from fx) iS
 | str a =>
   obtain ⟨t',rfl⟩:=ry
   cases x with
   | bp=>cases rx; exact SeqAt.EqAt.str_none a t'
   | bl b=>cases rx; exact SeqAt.EqAt.str_bool a t' b
   | int b=>obtain ⟨t,rfl⟩:=rx; exact SeqAt.EqAt.str_int a t' b t
   | str b=>obtain ⟨t,rfl⟩:=rx; exact SeqAt.EqAt.str_str a t' b t
   | _=>exact absurd (show false=true from fx) iS
 | _=>exact absurd (show false=true from fy) iS
def Ds (x:V) (u:Value):Bool:=match u with
 | .none=>CI .bp x
 | .bool b=>CI (.bl b) x
 | .int i _=>CI (.int i) x
 | .str z _=>CI (.str z) x
 | _=>false
theorem Au {x y:V} {u:Value} (r:RelV y u) (f:gG y=true):Ds x u=CI y x:=by
 cases y with
 | bp=>cases r; rfl
 | bl b=>cases r; rfl
 | int i=>obtain ⟨t,rfl⟩:=r; rfl
 | str z=>obtain ⟨t,rfl⟩:=r; rfl
 | _=>exact absurd (show false=true from f) iS
theorem qj {x:V}:∀ {xs:List V} {us:List Value},Vals xs us→xs.all gG=true→us.any (Ds x)=xs.any fun y=>CI y x
 | _,_,.nil,_=>rfl
 | y :: xs,u :: us,.cons r t,f=>by
   rw [r8,il] at f
   rw [Kz,Kz,Au r f.1,qj t f.2]
theorem l8 {A:Around} {s:Shared} {x:V} {v:Value} (rx:RelV x v) (fx:gG x=true):∀ {xs:List V} {us:List Value},Vals xs us→xs.all gG=true→∀ u∈us,SeqAt.EqAt A s u v (Ds x u)
 | _,_,.nil,_=>fun u hu=>by cases hu
 | y :: xs,u :: us,.cons r t,f=>fun u' hu=>by
   rw [r8,il] at f
   rcases cn.mp hu with rfl | hu
   · rw [Au r f.1]; exact Hy r rx f.1 fx
   · exact l8 rx fx t f.2 u' hu
def Qc (x:V) (xs:List V):Bool:=xs.any fun y=>CI y x
def U6 (K:PySem.W.Frag) (neg:Bool):R2:=fun x y H Q=>∃ p xs,y = .ref p∧(eB K H p xs∨dq K H p xs)∧gG x=true∧xs.all gG=true∧Q (.bl (if neg then !Qc x xs else Qc x xs)) H
theorem yf:eC X (compareOp .In) (U6 X.K false):=by
 intro pins s σ H x y v u Q I rx ry h
 obtain ⟨p,xs,rfl,hq,fx,fs,q⟩:=h
 cases ry
 rcases hq with hq | hq
 · obtain ⟨aJ,r,pl,hz⟩:=I.list hq
   refine SeqAt.in_listAt (Ds x) pl.isList (fun w hw=>l8 rx fx r fs w (by simpa using hw)) ⟨.bl _,H,I,rfl,?_⟩
   rw [show aJ.toArray.any (Ds x)=aJ.any (Ds x) by simp,qj r fs]
   exact q
 · obtain ⟨aJ,r,pl,hz⟩:=I.tuple hq
   refine SeqAt.in_tupleAt (Ds x) pl (fun w hw=>l8 rx fx r fs w (by simpa using hw)) ⟨.bl _,H,I,rfl,?_⟩
   rw [show aJ.toArray.any (Ds x)=aJ.any (Ds x) by simp,qj r fs]
   exact q
theorem qk:cM X (.builtin "len") (fun xs H Q=>∃ p ys,xs=[.ref p]∧(eB X.K H p ys∨dq X.K H p ys)∧Q (.int ys.length) H):=by
 intro pins s σ H xs us Q I r h
 obtain ⟨p,ys,rfl,hq,q⟩:=h
 obtain ⟨u,rfl,rx⟩:=vals1 r
 cases rx
 have hn:=jT
 rcases hq with hq | hq
 · obtain ⟨aJ,r',pl,hz⟩:=I.list hq
   have hlen:=r'.length
   exact Calls.call_len_list pl.isList (by simp only [fq] <;> omega) ⟨.int ys.length,H,I.tok _,⟨s.toks+1,by rw [fq,hlen]⟩,q⟩
 · obtain ⟨aJ,r',pl,hz⟩:=I.tuple hq
   have hlen:=r'.length
   exact len_tuple pl (by simp only [fq] <;> omega) ⟨.int ys.length,H,I.tok _,⟨s.toks+1,by rw [fq,hlen]⟩,q⟩
theorem ql:cM X (.builtin "len") (fun xs H Q=>∃ z,xs=[.str z]∧z.length≤sizeLine∧Q (.int z.length) H):=by
 intro pins s σ H xs us Q I r h
 obtain ⟨z,rfl,hz,q⟩:=h
 obtain ⟨u,rfl,t,rfl⟩:=vals1 r
 have hn:=jT
 exact len_str (by omega) ⟨.int z.length,H,I.tok _,⟨_,rfl⟩,q⟩
theorem cM.or {f:Value} {r r':List V→Hp→VK→Prop} (h:cM X f r) (h':cM X f r'):cM X f (fun xs H Q=>r xs H Q∨r' xs H Q):=by
 intro pins s σ H xs us Q I rs q
 rcases q with q | q
 · exact h pins s σ H xs us Q I rs q
 · exact h' pins s σ H xs us Q I rs q
theorem iZ:cM X (.type "list") (fun xs H Q=>∃ p ys,xs=[.ref p]∧(eB X.K H p ys∨dq X.K H p ys)∧∀ l,H l=none→Q (.ref l) (upd H l (.lst ys))):=by
 intro pins s σ H xs us Q I r h
 obtain ⟨p,ys,rfl,hq,q⟩:=h
 obtain ⟨u,rfl,rx⟩:=vals1 r
 cases rx
 have fin:∀ (aJ:List Value),Vals ys aJ→ys.length≤sizeLine→∀ (h':Heap) (c':Nat),(∀ b o',s.heap.get? b=some o'→h'.get? b=some o') →
   h'.get? s.heap.objs.size=some { cls:=.type "list",dict:=none,data:=.seq aJ.toArray c',slots:=#[] }→EP X pins σ Q (.ref s.heap.objs.size) { s with heap:=h' }:=fun aJ r' hz h' c' kp e =>
  ⟨.ref s.heap.objs.size,_,I.laid (t':=s.toks) kp (dH _) (show b8 X.prog X.w _ h' _ (.lst ys) from ⟨hz,aJ,c',r',e⟩),rfl,q _ (I.bA.fresh (dH _))⟩
 rcases hq with hq | hq
 · obtain ⟨aJ,r',pl,hz⟩:=I.list hq
   have hlen:=r'.length
   obtain ⟨o,ho,hc,n,hd⟩:=pl.isList
   exact call_list_seq p (.inl rfl) ho hc hd (fun h' c' kp e=>fin aJ r' hz h' c' kp e) (by simp only [fq] <;> omega)
 · obtain ⟨aJ,r',pl,hz⟩:=I.tuple hq
   have hlen:=r'.length
   obtain ⟨o,ho,hc,n,hd⟩:=pl
   exact call_list_seq p (.inr rfl) ho hc hd (fun h' c' kp e=>fin aJ r' hz h' c' kp e) (by simp only [fq] <;> omega)
theorem cN:cM X (.type "tuple") (fun xs H Q=>∃ p ys,xs=[.ref p]∧((eB X.K H p ys∧∀ l,H l=none→Q (.ref l) (upd H l (.tup ys)))∨(dq X.K H p ys∧Q (.ref p) H))):=by
 intro pins s σ H xs us Q I r h
 obtain ⟨p,ys,rfl,h⟩:=h
 obtain ⟨u,rfl,rx⟩:=vals1 r
 cases rx
 rcases h with ⟨hq,q⟩ | ⟨hq,q⟩
 · obtain ⟨aJ,r',pl,hz⟩:=I.list hq
   have hlen:=r'.length
   refine call_tuple_list pl.isList (fun h' kp=>?_) (by simp only [fq] <;> omega)
   have I1:Inv X pins σ H { s with heap:=h' }:=I.kept (t':=s.toks) kp
   have I2:Inv X pins σ (upd H h'.objs.size (.tup ys)) { s with heap:=h'.push { cls:=.type "tuple",data:=.seq aJ.toArray } } :=
    I1.laid (t':=s.toks) (fun b o e=>d_ _ e) (dH _) (show b8 X.prog X.w _ _ _ (.tup ys) from ⟨hz,aJ,r',IsTup.new _ _⟩)
   exact ⟨.ref h'.objs.size,_,I2,rfl,q _ (I1.bA.fresh (dH _))⟩
 · obtain ⟨aJ,r',pl,hz⟩:=I.tuple hq
   exact call_tuple_same pl ⟨.ref p,H,I,rfl,q⟩
def RC (K:PySem.W.Frag) (T:String) (x:V) (H:Hp):Prop:=match x with
 | .str _=>T="str"
 | .int _=>T="int"
 | .ref p=>(T="list"∧∃ xs,eB K H p xs)∨(T="tuple"∧∃ o,K.lookup p=some o∧o.cls = .type "tuple"∧o.dict=none) ∨
    (T="dict"∧((∃ aU,H p=some (.dK aU))∨∃ aU,H p=some (.dT aU)))∨(T="set"∧∃ S n,H p=some (.set S n))
 | _=>False
theorem Av {pins:List (Addr×Obj)} {σ:St} {H:Hp} {s:Shared} {T:String} {x:V} {v:Value} (I:Inv X pins σ H s) (r:RelV x v) (ty:RC X.K T x H) :
  s.TypeIs v T∧∀ a,v = .ref a→∃ ob,s.heap.get? a=some ob∧ob.dict=none:=by
 cases x with
 | str z =>
   obtain ⟨t,rfl⟩:=r
   cases (show T="str" from ty)
   exact ⟨typeIs_str s z t,fun _ e=>nomatch e⟩
 | int i =>
   obtain ⟨t,rfl⟩:=r
   cases (show T="int" from ty)
   exact ⟨typeIs_int s i t,fun _ e=>nomatch e⟩
 | ref p =>
   cases r
   rcases ty with ⟨rfl,xs,hq⟩ | ⟨rfl,o,hk,hc,hd⟩ | ⟨rfl,hk⟩ | ⟨rfl,S,n,hk⟩
   · obtain ⟨aJ,_,pl,_⟩:=I.list hq
     refine ⟨pl.isList.typeIs,fun a e=>?_⟩
     cases e
     obtain ⟨o,n,e,c,hd,_⟩:=pl
     exact ⟨o,e,hd⟩
   · refine ⟨⟨o,I.uR p o hk,hc⟩,fun a e=>?_⟩
     cases e
     exact ⟨o,I.uR _ o hk,hd⟩
   · have z:∃ o,s.heap.get? p=some o∧o.ExactDict:=by
      rcases hk with ⟨aU,hk⟩ | ⟨aU,hk⟩
      · obtain ⟨_,_,_,_,o,_,_,e,ex,_⟩:=I.bA p _ hk
        exact ⟨o,e,ex⟩
      · obtain ⟨_,_,_,_,o,_,_,e,ex,_⟩:=I.bA p _ hk
        exact ⟨o,e,ex⟩
     obtain ⟨o,e,ex⟩:=z
     refine ⟨⟨o,e,ex.1⟩,fun a e2=>?_⟩
     cases e2
     exact ⟨o,e,ex.2.1⟩
   · obtain ⟨o,_,_,_,e,ex,_⟩:=I.bA p _ hk
     refine ⟨⟨o,e,ex.1⟩,fun a e2=>?_⟩
     cases e2
     exact ⟨o,e,ex.2.1⟩
 | _=>exact False.elim ty
def RD (K:PySem.W.Frag) (T:String) (r:V→List V→Hp→VK→Prop) (to:TE):TE:=fun σ H Q=>to σ H fun x H1=>RC K T x H1∧r x [] H1 Q
def Wb (K:PySem.W.Frag) (T:String) (r:V→List V→Hp→VK→Prop) (to:TE) (t:TA):TE:=fun σ H Q=>to σ H fun x H1=>RC K T x H1∧t σ H1 fun xs H2=>r x xs H2 Q
variable {o e:Expr} {es:List Expr} {to:TE} {t:TA} {name:Str} {apos a_:Pos} {T id:String} {r:V→List V→Hp→VK→Prop}
theorem Hz (pa:PlainAttrs T) (slot:Slot T name id) (HA:typeOf (.builtin id)=pure (.type "method_descriptor")) (hm:zS X id r) (ho:PE X o to)
  (dO:attributeBase o name X.env (eval o X.env)=eval o X.env:=by rfl) (dP:(apos.endLine == a_.line)=true:=by rfl):PE X (.Call (.Attribute o name apos) [] [] a_) (RD X.K T r to):=by
 intro pins s σ H Q I h
 refine wpAny_Call_method0_late dO dP (cf (ho pins s σ H _ I h) fun v s1 ⟨x,H1,I1,r1,ty,q1⟩=>?_)
 obtain ⟨h1,h2⟩:=Av I1 r1 ty
 exact ⟨T,id,pa,slot,HA,h1,h2,PQ rfl (PySem.evalArgs_none (hm pins s1 σ H1 x [] v [] Q I1 r1 .nil q1))⟩
theorem pC (pa:PlainAttrs T) (slot:Slot T name id) (HA:typeOf (.builtin id)=pure (.type "method_descriptor")) (hm:zS X id r) (ho:PE X o to) (ha:PA X (e :: es) t)
  (dO:attributeBase o name X.env (eval o X.env)=eval o X.env:=by rfl)
  (jX:((backTo a_ (starEach (e :: es) X.env)).all (fun x=>!x.1) && (backToKw a_ (keywordEach [] X.env)).all (fun x=>x.1.isSome)
    && decide ((e :: es).length+([]:List Keyword).length+(if ([]:List Keyword).isEmpty then 0 else 1) < 30))=true:=by rfl)
  (dP:(apos.endLine == a_.line)=true:=by rfl) (hs:starEach (e :: es) X.env=(false,eval e X.env) :: starEach es X.env:=by rfl) (dw:(backTo a_ (starEach es X.env)).any (·.1)=false:=by rfl) :
  PE X (.Call (.Attribute o name apos) (e :: es) [] a_) (Wb X.K T r to t):=by
 intro pins s σ H Q I h
 refine wpAny_Call_method_late dO jX dP rfl (cf (ho pins s σ H _ I h) fun v s1 ⟨x,H1,I1,r1,ty,q1⟩=>?_)
 obtain ⟨h1,h2⟩:=Av I1 r1 ty
 refine ⟨T,id,pa,slot,HA,h1,h2,?_⟩
 have hA:=ha a_ pins s1 σ H1 _ I1 q1
 rw [hs] at hA ⊢
 refine PQ (by show (false || (backTo a_ (starEach es X.env)).any (·.1))=false; rw [dw] <;> rfl) (Calls.evalArgs_plain ?_)
 exact cf hA fun us s2 ⟨vs,H2,I2,r2,q2⟩=>hm pins s2 σ H2 x vs v us Q I2 r1 r2 q2
end
def Qd (X:Cx) (id:String) (r:V→List V→Hp→VK→Prop):Prop :=
 ∀ (pins:List (Addr×Obj)) (s:Shared) (σ:St) (H:Hp) (x:V) (xs:List V) (v:Value) (us:List Value) (Q:VK),Inv X pins σ H s→RelV x v→Vals xs us→r x xs H Q →
  wpAny (model X.prog X.w) X.A (call (.builtin id) (v :: us)) (EP X pins σ Q) X.xe s
theorem Vals.one:∀ {x:V} {us:List Value},Vals [x] us→∃ u,us=[u]∧RelV x u
 | _,_,.cons r .nil=>⟨_,rfl,r⟩
theorem Vals.two:∀ {x y:V} {us:List Value},Vals [x,y] us→∃ u v,us=[u,v]∧RelV x u∧RelV y v
 | _,_,_,.cons r (.cons q .nil)=>⟨_,_,rfl,r,q⟩
theorem Vals.zero:∀ {us:List Value},Vals [] us→us=[]
 | _,.nil=>rfl
theorem Vals.dropLast {xs:List V} {us:List Value} (h:Vals xs us):Vals xs.dropLast us.dropLast:=by
 induction h with
 | nil=>exact .nil
 | cons r t ih =>
   cases t with
   | nil=>exact .nil
   | cons q t'=>exact .cons r ih
theorem Vals.eraseIdx:∀ {xs:List V} {us:List Value} (i:Nat),Vals xs us→Vals (xs.eraseIdx i) (us.eraseIdx i)
 | _,_,_,.nil=>.nil
 | _,_,0,.cons _ t=>t
 | _,_,i+1,.cons r t=>.cons r (Vals.eraseIdx i t)
theorem Vals.reverse {xs:List V} {us:List Value} (h:Vals xs us):Vals xs.reverse us.reverse:=by
 induction h with
 | nil=>exact .nil
 | cons r t ih=>rw [P5,P5]; exact Vals.append ih (.cons r .nil)
theorem u9 {α:Type} (l:List α):l.eraseIdx (l.length - 1)=l.dropLast:=by
 induction l with
 | nil=>rfl
 | cons a r ih =>
   cases r with
   | nil=>rfl
   | cons b r =>
     have e:(a :: b :: r).length - 1=((b :: r).length - 1)+1:=by
      have h1:(a :: b :: r).length=r.length+2:=rfl
      have h2:(b :: r).length=r.length+1:=rfl
      omega
     rw [e,List.eraseIdx_cons_succ,ih]
     all_goals rfl
section
variable {X:Cx} {pins:List (Addr×Obj)} {σ:St} {H:Hp} {s:Shared} {l b:Addr} {xs ys zs:List V}
theorem Inv.Dt {aJ its':List Value} {n:Nat} {f:Array Value→Array Value} {t':Nat} (I:Inv X pins σ H s) (hH:H l=some (.lst xs))
  (e:s.heap.get? l=some { cls:=.type "list",data:=.seq aJ.toArray n }) (hf:f aJ.toArray=its'.toArray) (hv:Vals ys its') (hz:ys.length≤sizeLine) :
  Inv X pins σ (upd H l (.lst ys)) { s with heap:=s.heap.update l (Obj.mapSeq f),toks:=t' }:=by
 have q:=PySem.IsL.update e f
 rw [hf] at q
 refine I.write (x:=l) (e:=l) (by rw [hH]; exact trivial) (.inl rfl) (fun b' u hb hu=>(Heap.get?_update_other s.heap (Obj.mapSeq f) (Ne.symm hb)).trans hu) ⟨_,q⟩ ?_
 exact ⟨hz,its',_,hv,q⟩
theorem Inv.RE {aJ:List Value} {t':Nat} (I:Inv X pins σ H s) (hv:Vals ys aJ) (hz:ys.length≤sizeLine) :
  Inv X pins σ (upd H s.heap.objs.size (.lst ys)) { s with heap:=s.heap.push { cls:=.type "list",data:=.seq aJ.toArray },toks:=t' } :=
 I.laid (fun _ _ q=>d_ _ q) (dH _) ⟨hz,aJ,0,hv,ly _ rfl⟩
theorem Inv.fresh (I:Inv X pins σ H s):H s.heap.objs.size=none:=I.bA.fresh (dH _)
theorem Inv.Aw (I:Inv X pins σ H s) (hH:H l=some (.lst xs)):xs.length≤sizeLine∧∃ (aJ:List Value) (n:Nat),Vals xs aJ∧xs.length=aJ.length∧s.heap.get? l=some { cls:=.type "list",data:=.seq aJ.toArray n }:=by
 obtain ⟨z,aJ,n,r,e⟩:=I.bA l _ hH
 exact ⟨z,aJ,n,r,r.length,e⟩
theorem Ax {n:Nat} (h:n≤sizeLine):Builtin.List.listTooLong n=false:=by
 unfold Builtin.List.listTooLong
 exact decide_eq_false (by omega)
end
section
variable {X:Cx}
def xc:V→List V→Hp→VK→Prop:=fun x vs H Q=>∃ l xs y,x = .ref l∧vs=[y]∧H l=some (.lst xs)∧xs.length < sizeLine∧Q .bp (upd H l (.lst (xs ++ [y])))
theorem aY:Qd X "list.append" xc:=by
 intro pins s σ H x vs v us Q I rx rv h
 obtain ⟨l,xs,y,rfl,rfl,hH,hz,q⟩:=h
 cases rx
 obtain ⟨u,rfl,ru⟩:=rv.one
 obtain ⟨z,aJ,n,r,hl,e⟩:=I.Aw hH
 refine call_meets F.slot_list_append ⟨_,e,rfl⟩ F.entry_list_append (F.args_list_append_2 _ _) (PySem.list_append l aJ.toArray n u (by rw [fq]; omega)) ⟨e,?_⟩
 refine ⟨.bp,_,I.Dt (its':=aJ ++ [u]) hH e (by simp) (r.append (.cons ru .nil)) ?_,rfl,q⟩
 rw [kS,PU]
 omega
def Du:V→List V→Hp→VK→Prop:=fun x vs H Q=>∃ l b xs zs,x = .ref l∧vs=[.ref b]∧H l=some (.lst xs)∧H b=some (.lst zs)∧xs.length+zs.length≤sizeLine∧Q .bp (upd H l (.lst (xs ++ zs)))
theorem yg:Qd X "list.extend" Du:=by
 intro pins s σ H x vs v us Q I rx rv h
 obtain ⟨l,b,xs,zs,rfl,rfl,hH,hB,hz,q⟩:=h
 cases rx
 obtain ⟨u,rfl,ru⟩:=rv.one
 cases ru
 obtain ⟨z,aJ,n,r,hl,e⟩:=I.Aw hH
 obtain ⟨z2,c7,n2,r2,Yv,e2⟩:=I.Aw hB
 have zP:aJ.toArray.size+c7.toArray.size≤sizeLine:=by rw [fq,fq]; omega
 have L5:¬ (!aJ.toArray.isEmpty && Builtin.List.listTooLong (aJ.toArray.size+c7.toArray.size))=true:=by
  rw [Ax zP,Bool.and_false]
  exact iS
 refine call_meets F.slot_list_extend ⟨_,e,rfl⟩ F.entry_list_extend (F.args_list_extend_2 _ _)
  (AutoSeq1.list_extend_list_list_0 l aJ.toArray n b c7.toArray n2 L5 (by rw [fq]; omega) (by omega)) ⟨e,e2,?_⟩
 refine ⟨.bp,_,I.Dt (its':=aJ ++ c7) hH e (by simp) (r.append r2) ?_,rfl,q⟩
 rw [kS]
 omega
def L6:V→List V→Hp→VK→Prop:=fun x vs H Q=>∃ l xs y,x = .ref l∧vs=[]∧H l=some (.lst xs)∧xs[xs.length - 1]?=some y∧Q y (upd H l (.lst xs.dropLast))
theorem Ay:Qd X "list.pop" L6:=by
 intro pins s σ H x vs v us Q I rx rv h
 obtain ⟨l,xs,y,rfl,rfl,hH,hy,q⟩:=h
 cases rx
 have L7:=rv.zero
 subst L7
 obtain ⟨z,aJ,n,r,hl,e⟩:=I.Aw hH
 obtain ⟨u,hu,ru⟩:=r.get hy
 have Wc:aJ.toArray[aJ.toArray.size - 1]?=some u:=by
  show aJ.toArray[aJ.length - 1]?=some u
  rw [← PV,← hl]
  exact hu
 refine call_meets F.slot_list_pop ⟨_,e,rfl⟩ F.entry_list_pop (F.args_list_pop_1 _) (MeetsSeq.list_pop_last l aJ.toArray n u Wc (by rw [fq]; omega)) ⟨e,?_⟩
 refine ⟨y,_,I.Dt (its':=aJ.dropLast) hH e ?_ r.dropLast ?_,ru,q⟩
 · show aJ.toArray.eraseIdxIfInBounds (aJ.toArray.size - 1)=aJ.dropLast.toArray
   rw [fq,List.eraseIdxIfInBounds_toArray,u9]
 · rw [List.length_dropLast]
   omega
def sj:V→List V→Hp→VK→Prop:=fun x vs H Q=>∃ l xs,x = .ref l∧vs=[]∧H l=some (.lst xs)∧Q .bp (upd H l (.lst xs.reverse))
theorem u_:Qd X "list.reverse" sj:=by
 intro pins s σ H x vs v us Q I rx rv h
 obtain ⟨l,xs,rfl,rfl,hH,q⟩:=h
 cases rx
 have L7:=rv.zero
 subst L7
 obtain ⟨z,aJ,n,r,hl,e⟩:=I.Aw hH
 refine call_meets F.slot_list_reverse ⟨_,e,rfl⟩ F.entry_list_reverse (F.args_list_reverse_1 _) (AutoSeq1.list_reverse_list_0 l aJ.toArray n (by rw [fq]; omega)) ⟨e,?_⟩
 refine ⟨.bp,_,I.Dt (its':=aJ.reverse) hH e (by simp) r.reverse ?_,rfl,q⟩
 rw [List.length_reverse]
 omega
end
section
variable {prog:Program} {w:World} {A:Around} {E:Value→Shared→Prop} {s:Shared}
end
section
variable {X:Cx}
end
end L2
namespace Qe
open PySem PySem.W PySem.Calls PyProof.Rows
theorem kZ {P:Params} {h:Heap}:∀ (ns:List Int) (vs:List Value),WellAll P h vs (ns.map WData.int)→IntsAre vs ns:=by
 intro ns
 induction ns with
 | nil =>
   intro vs w
   rw [FH] at w
   cases w
   exact .nil
 | cons n ns ih =>
   intro vs w
   rw [fu] at w
   cases w with
   | cons a b =>
     cases a
     exact .cons _ _ (ih _ b)
theorem yh {l:OpenLaw} {n:Nat} (hn:l.most=some n) {P:Params} {h:Heap} {args:List WData} {vals:List Value}
  (ic:l.row.toRowW.claim.pre args=true) (KL:WellAll P h vals args) :
  ∃ a vs ns,vals=[Value.ref a]∧args=[WData.list (ns.map WData.int)]∧h.get? a=some { cls:=.type "list",data:=.seq vs.toArray }∧IntsAre vs ns∧ns.length≤n:=by
 have Wd:WShape.hasAll [] args [.list .int]=true:=(pre_splitW ic).1
 have hc:l.pre.holds [] { args:=args }=true:=(pre_splitW ic).2
 obtain ⟨d,r,rfl,h1,h2⟩:=hasAllW_cons Wd
 obtain rfl:=hasAllW_nil h2
 obtain ⟨xs,rfl,h3⟩:=hasW_list h1
 obtain ⟨ns,rfl⟩:=items_int h3
 have hlen:ns.length≤n:=by
  unfold OpenLaw.pre at hc
  have h4:(WTm.not (.lt (.lit (.int (n:Int))) (.len (.arg 0)))).holds [] { args:=[.list (ns.map .int)] }=true:=by
   have h4:=(holds_andW hc).1
   rw [hn] at h4
   exact h4
  have h5:=condW_of h4 (w_not (w_lt w_lit (w_len_list (w_arg rfl))))
  rw [bU] at h5
  refine Nat.le_of_not_lt fun q=>?_
  have q':(n:Int) < ((ns.length:Nat):Int):=by omega
  first
   | (rw [decide_eq_true q'] at h5; exact absurd h5 (by decide))
   | (simp at h5; omega)
 cases KL with
 | cons w1 w2 =>
   cases w2
   cases w1 with
   | list ho oj=>exact ⟨_,_,ns,rfl,rfl,ho,kZ ns _ oj,hlen⟩
theorem yi (l:OpenLaw) (args:List WData):l.row.toRowW.claim.post args (.bool true) args=true :=
 postW_of (r:=l.row.toRowW) (X:=(true == true))
  (show WShape.has [] (.bool true) .bool=true by first | rfl | decide | simp [WShape.has,WShape.arms,WShape.armsAll])
  (show (WTm.eq .res (.lit (.bool true))).value [] { args:=args,res:=some (.bool true),after:=args }=some (.bool (true == true)) from w_eq_bool (w_res rfl) w_lit) rfl
theorem so {l:OpenLaw} {n:Nat} {q:Program} {loose:List Str} {XP:(Str→Option Value)→Heap→Prop} {YP:World→Heap→Prop} {d:DefRec}
  (hn:l.most=some n) (RF:d.params.defaults=[])
  (call:∀ (w:World) (s₀ s₁:Shared) (mg mb:Str→Option Value) (fa:Addr) (o:Obj) (pm cd doc:Value) (a:Addr) (vs:List Value) (ns:List Int),
    Ground q loose [] XP w s₀ mg mb s₁.heap→YP w s₁.heap →
    s₁.heap.get? fa=some o→o.data = .func (docDef d.name d.params d.body d.scope pm cd doc)→s₁.heap.CodeRec cd d.name→mg d.name=some (.ref fa) →
    s₁.heap.get? a=some { cls:=.type "list",data:=.seq vs.toArray }→IntsAre vs ns→ns.length≤n→s₁.gens = #[] →
    codeAny (model l.prog w) callerA (.call (.ref fa) ⟨[.ref a],[]⟩) (fun r s'=>r = .ok (.ret (.bool true))∧OldK s₁.heap s'.heap∧s'.os=s₁.os∧AllBare s'.gens) s₁) :
  WalkO q loose XP YP l.row.toRowW d [] (fun f vs=>PySem.call f vs):=by
 intro w s₀ s₁ mg mb G Y fa o pm cd doc dV kV ho hd iq hD L8 hg args vals as ic L9 U7 KL U8
 obtain rfl:dV = .none:=Dflts.none hD RF
 obtain rfl:kV = .none:=Dflts.noKw hD
 obtain ⟨a,vs,ns,rfl,rfl,HB,hints,hlen⟩:=yh hn ic KL
 refine enter_call (codeAny_mono (call w s₀ s₁ mg mb fa o pm cd doc a vs ns G Y ho (fd_plain hd) iq L8 HB hints hlen hg) fun r s' hq=>?_)
 obtain ⟨rfl,h2,h3,h4⟩:=hq
 exact ⟨.inl ⟨.bool true,.bool true,[],rfl,fun _=>rfl,.bool true,yi l _,fun _=>⟨List.Pairwise.nil,fun _ hm=>(nomatch hm)⟩⟩,h2,h3,h4⟩
section
variable {prog:Program} {w:World} {A:Around} {E:Value→Shared→Prop} {s:Shared} {K:Frag}
end
end Qe
namespace L2
open PySem PySem.Spec PyProof.Rows
theorem pD:∀ {vs:List Value} {ns:List Int},IntsAre vs ns→Vals (ns.map V.int) vs
 | _,_,.nil=>.nil
 | _,_,.cons n t h=>.cons ⟨t,rfl⟩ (pD h)
def L_ (H:Hp):Prop:=∀ b,H b=none∨∃ o xs,H b=some (.sd o (.lst xs))
theorem Az {P:Program} {w:World} {K:PySem.W.Frag} {mg mb:Str→Option Value} {CX:wZ} {k:Nat} {fa a:Addr} {fd:FuncData} {x:Str} {sp:Sp} {s₁:Shared} {vs:List Value} {ns:List Int}
  (KX:K.In s₁.heap) (RG:s₁.heap.Ns mainGlobals mg) (hb:s₁.heap.Ns builtinsNs mb) (We:∀ x:Str,x≠"__name__"→mb x=bootBuiltins x) (RH:s₁.heap.NoLimit) (hg:s₁.gens = #[])
  (ha:s₁.heap.get? a=some { cls:=.type "list",data:=.seq vs.toArray }) (hi:IntsAre vs ns) (hl:ns.length≤sizeLine) (hr:bP k callerA)
  (F:∀ base:Heap,K.In base→base.Ns mainGlobals mg→dX P w K mg base CX k fa fd [x] sp) (L':∀ (s:Shared) (u:Value),BindsTo s fd ⟨[u],[]⟩ [(x,u)])
  (KH:∀ H:Hp,L_ H→eB K H a (ns.map V.int)→sp [.ref a] H (fun v _=>v = .bl true) fun _ _ _=>False)
  (Wf:∀ H e s',CX [] H s₁ (fun _ _ _=>False) e s'→False) :
  codeAny (model P w) callerA (.call (.ref fa) ⟨[.ref a],[]⟩) (fun r s'=>r = .ok (.ret (.bool true))∧OldK s₁.heap s'.heap∧s'.os=s₁.os∧AllBare s'.gens) s₁:=by
 have rv:=pD hi
 have RI:=hi.length
 have core:∀ H:Hp,L_ H→eB K H a (ns.map V.int)→jM P w H s₁.heap→(∀ b,H b≠none→b=a)→(H a≠none→K.lookup a=none) →
   codeAny (model P w) callerA (.call (.ref fa) ⟨[.ref a],[]⟩) (fun r s'=>r = .ok (.ret (.bool true))∧OldK s₁.heap s'.heap∧s'.os=s₁.os∧AllBare s'.gens) s₁:=by
  intro H hO hS bA hA hK
  have xf:∀ {b:Addr} {o:Obj},s₁.heap.get? b=some o→H b=none→(qe s₁.heap H).get? b=some o:=fun e n=>Aa e n
  have LQ:∀ {b:Addr} {o:Obj} {es:Array DictEntry} {ep:Nat},s₁.heap.get? b=some o→o.data = .dict es ep→H b=none:=fun {b o es ep} e d=>by
   cases q:H b with
   | none=>rfl
   | some u =>
     have e':b=a:=hA b (by rw [q]; simp)
     subst e'
     rw [ha] at e; cases e
     have d':Data.seq vs.toArray _=Data.dict es ep:=d
     cases d'
  have Qf:∀ {b:Addr} {m:Str→Option Value},s₁.heap.Ns b m→(qe s₁.heap H).Ns b m:=fun {b m} ⟨o,es,ep,e,d,r⟩=>⟨o,es,ep,xf e (LQ e d),d,r⟩
  have U9:K.In (qe s₁.heap H):=fun b o e=>xf (KX b o e) (by
   cases q:H b with
   | none=>rfl
   | some u =>
     have e':b=a:=hA b (by rw [q]; simp)
     subst e'
     rw [hK (by rw [q]; simp)] at e; cases e)
  have hM:Mod K mg (qe s₁.heap H):=⟨U9,Qf RG,⟨mb,Qf hb,We⟩,let ⟨mc,h1,h2⟩:=RH; ⟨mc,Qf h1,h2⟩⟩
  have e0:u3 P w K mg (qe s₁.heap H) callerA [] s₁ H:=⟨rfl,hM,fun b o e=>CZ e,Nat.le_of_eq (x_ _ _),trivial,fun b hb=>absurd (show b∈([]:List Addr) from hb) (by simp),bA,.of_eq hg⟩
  refine codeAny_mono ((F _ U9 (Qf RG)).run callerA [] s₁ H ⟨[.ref a],[]⟩ [.ref a] [.ref a] _ _ hr e0 (L' s₁ (.ref a)) (.cons rfl .nil) (KH H hO hS)) fun r s' h=>?_
  cases r with
  | error e=>exact (Wf H e s' h).elim
  | ok fl =>
    cases fl with
    | ret u =>
      obtain ⟨v,H',os,bare,un,RJ,r',q⟩:=h
      have q':v = .bl true:=q
      subst q'
      obtain rfl:u=Value.bool true:=r'
      refine ⟨rfl,OldK.of_keep fun b o e=>?_,os,bare⟩
      cases q:H b with
      | none=>exact un.keep b o e q (by intro z; exact absurd (show b∈([]:List Addr) from z) (by simp)) (by simp)
      | some u =>
        rcases hO b with z | ⟨ob,xs,z⟩
        · rw [q] at z; cases z
        · have z2:=un.jP b ob _ z
          obtain ⟨e1,_⟩:=bA b _ z
          obtain ⟨e2,_⟩:=RJ b _ z2
          rw [e] at e1; cases e1
          exact e2
    | _=>exact False.elim h
 cases hk:K.lookup a with
 | some o =>
   have e:=KX a o hk
   rw [ha] at e
   cases e
   refine core (fun _=>none) (fun _=>.inl rfl) (.inr ⟨_,vs.toArray,_,hk,rfl,rfl,rfl,by rw [fq,RI]; exact hl,by simpa using rv⟩) (fun b u z=>by have z':(none:Option HO)=some u:=z; cases z') (fun b z=>absurd rfl z) fun z=>absurd rfl z
 | none =>
   refine core (fun b=>if b=a then some (.sd { cls:=.type "list",data:=.seq vs.toArray } (.lst (ns.map V.int))) else none) (fun b=>?_) (.inl (.inr ⟨{ cls:=.type "list",data:=.seq vs.toArray },if_pos rfl⟩)) (fun b u z=>?_) (fun b z=>?_) fun _=>hk
   · by_cases hb:b=a
     · exact .inr ⟨_,_,if_pos hb⟩
     · exact .inl (if_neg hb)
   · by_cases hb:b=a
     · have z':=(if_pos hb).symm.trans z
       cases z'
       subst hb
       exact ⟨ha,by rw [bU]; exact hl,vs,_,rv,ha⟩
     · have z':=(if_neg hb).symm.trans z
       cases z'
   · by_cases hb:b=a
     · exact hb
     · exact absurd (if_neg hb) z
def eX (s:Stmt):Arguments:=match s with
 | .FunctionDef _ a _ _ _ _ _ _ _ _=>a
 | _=>{ posonlyargs:=[],args:=[],vararg:=none,kwonlyargs:=[],kw_defaults:=[],kwarg:=none,defaults:=[] }
def c8 (s:Stmt):List Stmt:=match s with
 | .FunctionDef _ _ b _ _ _ _ _ _ _=>b
 | _=>[]
def ak (s:Stmt):Scope:=match s with
 | .FunctionDef _ _ _ _ _ _ sc _ _ _=>sc
 | _=>{ kind:=.function,names:=[],isGenerator:=false,isCoroutine:=false }
abbrev jN:wZ:=fun _ _ _ _ _ _=>False
abbrev E0:XK:=fun _ _ _=>False
theorem xg {X:Cx}:Passes jN X E0:=fun _ _ _ _ _ _ _ h=>h.elim
structure Dv (K:PySem.W.Frag) (x qual:Str) (st:Stmt) (f:Addr) (fd:FuncData):Prop where
 ex:∃ (oc:Value) (od:Option Addr) (kV doc pm:Value) (an:Option Addr) (bZ ct:Value) (CH:Array (Option Value)),
  fd=PySem.W.fnOf x qual (eX st) (c8 st) (ak st) .none kV doc pm an bZ ct∧K.lookup f=some ⟨oc,od,.func fd,CH⟩∧PySem.W.codeIn K bZ qual=true
 kp:PySem.W.keepIn K (.ref f)=true
section
variable {P:Program} {w:World} {K:PySem.W.Frag} {mg:Str→Option Value} {base:Heap}
theorem Dv.ok {x qual:Str} {st:Stmt} {f:Addr} {fd:FuncData} {N ps:List Str} {k:Nat} {sp:Sp} (F:Dv K x qual st f fd) (S:aE N ps (ak st)) (len:∀ vs H Q E,sp vs H Q E→vs.length=ps.length)
  (lY:∀ (bZ:Value) (A:Around) (outer:List Env) (s:Shared) (H:Hp) (vs:List V) (Q:VK) (E:XK),bP k (A.deeper (envOfC qual (ak st) s.heap.objs.size f bZ))→sp vs H Q E →
    ∃ t,lz (ib jN P w K mg base N qual (ak st) f bZ A outer s H E).r0 (c8 st) t∧t { nx:=fun _ H'=>Q .bp H',rt:=Q } (start N vs) H):dX P w K mg base jN (k+1) f fd ps sp:=by
 obtain ⟨oc,od,kV,doc,pm,an,bZ,ct,CH,rfl,lk,iq⟩:=F.ex
 refine LR lk iq S len fun A outer s H vs Q E hr KH=>?_
 obtain ⟨t,h,q⟩:=lY bZ A outer s H vs Q E hr KH
 exact ⟨t,h.r0,q⟩
theorem Dv.binds {x qual:Str} {st:Stmt} {f:Addr} {fd:FuncData} {ps:List Str} (F:Dv K x qual st f fd)
  (h:∀ (kV doc pm:Value) (an:Option Addr) (bZ ct:Value) (us:List Value),us.length=ps.length→bindArgs (PySem.W.fnOf x qual (eX st) (c8 st) (ak st) .none kV doc pm an bZ ct) ⟨us,[]⟩=pure (ps.zip us)):Binds K fd ps []:=by
 obtain ⟨oc,od,kV,doc,pm,an,bZ,ct,CH,rfl,lk,iq⟩:=F.ex
 exact .all (h kV doc pm an bZ ct)
theorem AA {x qual:Str} {st:Stmt} {f:Addr} {oc:Value} {od an:Option Addr} {CH:Array (Option Value)} {kV doc pm bZ ct:Value} (l:K.lookup f=some ⟨oc,od,.func (PySem.W.fnOf x qual (eX st) (c8 st) (ak st) .none kV doc pm an bZ ct),CH⟩)
 (c:PySem.W.codeIn K bZ qual=true) (k:PySem.W.keepIn K (.ref f)=true):Dv K x qual st f (PySem.W.fnOf x qual (eX st) (c8 st) (ak st) .none kV doc pm an bZ ct):=⟨⟨oc,od,kV,doc,pm,an,bZ,ct,CH,rfl,l,c⟩,k⟩
end
theorem yj {n:Nat} (h:n≤1000):n < sizeLine:=Nat.lt_of_le_of_lt h (by decide)
section
variable {X:Cx}
theorem pv (i:Nat) {x:Str} {pos:Pos} (hN:X.N[i]?=some x:=by rfl) (hv:uJ X.env.scope x:=by first | exact Or.inl rfl | exact Or.inr (Or.inl rfl) | exact Or.inr (Or.inr rfl)) (hd:(x == ("__debug__" : Str))=false:=by decide)
 (iq:(x == ("__classdict__" : Str))=false:=by decide):PE X (.Name x pos) (Lp i):=eA hN hv hd iq
end
theorem Ma {A B:Prop} (h:B):if false=true then A else B:=by
 rw [if_neg iS]
 exact h
theorem Mb {A B:Prop} (h:A):if true=true then A else B:=by
 rw [if_pos rfl]
 exact h
theorem sr {c A B:Prop} [Decidable c] (h1:c→A) (h2:¬ c→B):if c then A else B:=by
 by_cases h:c
 · rw [if_pos h]
   exact h1 h
 · rw [if_neg h]
   exact h2 h
def aK (H H':Hp):Prop:=∀ b o,H b=some o→H' b=some o
theorem aK.refl (H:Hp):aK H H:=fun _ _ h=>h
theorem aK.trans {H H1 H2:Hp} (a:aK H H1) (b:aK H1 H2):aK H H2:=fun c o h=>b c o (a c o h)
theorem aK.free {H H':Hp} (e:aK H H') {l:Addr} (h:H' l=Option.none):H l=Option.none:=by
 cases q:H l with
 | none=>rfl
 | some o =>
   rw [e l o q] at h
   cases h
theorem aK.seq {K:PySem.W.Frag} {H H':Hp} {a:Addr} {xs:List V} (e:aK H H') (h:eB K H a xs):eB K H' a xs:=by
 rcases h with (h | ⟨o,h⟩) | h
 · exact .inl (.inl (e _ _ h))
 · exact .inl (.inr ⟨o,e _ _ h⟩)
 · exact .inr h
section
theorem f_ {env:Env} {f:Str×NameKind→List (Str×Addr)→Sem (ForInStep (List (Str×Addr)))}:∀ (l:List (Str×NameKind)) (cs:List (Str×Addr)),
  (∀ p∈l,∀ r,(p.2 = .free→∃ c,env.cells.lookup p.1=some c∧f p r=pure (.yield ((p.1,c) :: r)))∧(p.2≠.free→f p r=pure (.yield r))) →
  ∃ cl,forIn l cs f=pure cl∧(∀ y c,cl.lookup y=some c→cs.lookup y=some c∨env.cells.lookup y=some c)∧(∀ y,(cs.lookup y).isSome=true→(cl.lookup y).isSome=true) ∧
   ∀ p∈l,p.2 = .free→(cl.lookup p.1).isSome=true
 | [],cs,_=>⟨cs,by rw [List.forIn_nil],fun _ _ h=>.inl h,fun _ h=>h,fun _ h=>nomatch h⟩
 | p :: l,cs,hf=>by
   have hr:∀ q∈l,∀ r,(q.2 = .free→∃ c,env.cells.lookup q.1=some c∧f q r=pure (.yield ((q.1,c) :: r)))∧(q.2≠.free→f q r=pure (.yield r)):=fun q hq r=>hf q (g9 _ hq) r
   by_cases hp:p.2 = .free
   · obtain ⟨c,hc,e⟩:=(hf p eW cs).1 hp
     obtain ⟨cl,h1,h2,h3,h4⟩:=f_ l ((p.1,c) :: cs) hr
     refine ⟨cl,?_,fun y d h=>?_,fun y h=>h3 y ?_,fun q hq Qg=>?_⟩
     · rw [List.forIn_cons,e]
       exact h1
     · rcases h2 y d h with z | z
       · rw [FC] at z
         cases hy:y == p.1 with
         | true =>
           rw [hy] at z
           have ey:y=p.1:=eq_of_beq hy
           cases z
           rw [ey]
           exact .inr hc
         | false=>rw [hy] at z; exact .inl z
       · exact .inr z
     · rw [FC]
       cases hy:y == p.1 with
       | true=>rfl
       | false=>exact h
     · rcases cn.mp hq with z | z
       · subst z
         refine h3 _ ?_
         rw [FC,beq_self_eq_true]
         rfl
       · exact h4 q z Qg
   · have e:=(hf p eW cs).2 hp
     obtain ⟨cl,h1,h2,h3,h4⟩:=f_ l cs hr
     refine ⟨cl,?_,h2,h3,fun q hq Qg=>?_⟩
     · rw [List.forIn_cons,e]
       exact h1
     · rcases cn.mp hq with z | z
       · subst z; exact absurd Qg hp
       · exact h4 q z Qg
theorem gv {scope:Scope} {env:Env} (h:∀ p∈scope.names,p.2 = .free→∃ c,env.cells.lookup p.1=some c) :
  ∃ cl,closureFor scope env=pure cl∧(∀ y c,cl.lookup y=some c→env.cells.lookup y=some c)∧∀ p∈scope.names,p.2 = .free→∃ c,cl.lookup p.1=some c:=by
 have key:∃ cl,closureFor scope env=pure cl∧(∀ y c,cl.lookup y=some c→([]:List (Str×Addr)).lookup y=some c∨env.cells.lookup y=some c)∧(∀ y,(([]:List (Str×Addr)).lookup y).isSome=true→(cl.lookup y).isSome=true) ∧
   ∀ p∈scope.names,p.2 = .free→(cl.lookup p.1).isSome=true:=by
  simp only [closureFor]
  have go:=@f_ env (fun x r=>if x.2 == NameKind.free then (do let c ← cellOf env x.1; pure (ForInStep.yield ((x.1,c) :: r))) else pure (ForInStep.yield r)) scope.names [] ?_
  · obtain ⟨cl,h1,h2⟩:=go
    refine ⟨cl,?_,h2⟩
    first
     | (show (forIn scope.names [] _ >>= fun cs=>pure cs)=_; rw [h1]; rfl)
     | (rw [h1]; rfl)
     | exact congrArg (· >>= pure) h1
  · intro p hp r
    refine ⟨fun hf=>?_,fun hf=>?_⟩
    · obtain ⟨c,hc⟩:=h p hp hf
      refine ⟨c,hc,?_⟩
      have e1:(p.2 == NameKind.free)=true:=by rw [hf]; rfl
      have e2:cellOf env p.1=pure c:=by unfold cellOf; rw [hc]
      rw [e1,if_pos rfl,e2]
      rfl
    · have e1:(p.2 == NameKind.free)=false:=by simpa using hf
      rw [e1,if_neg (by decide)]
 obtain ⟨cl,h1,h2,h3,h4⟩:=key
 refine ⟨cl,h1,fun y c e=>?_,fun p hp hf=>Option.isSome_iff_exists.mp (h4 p hp hf)⟩
 rcases h2 y c e with z | z
 · rw [List.lookup_nil] at z; cases z
 · exact z
theorem i0 {scope:Scope} {env:Env} (y:Str):(relabel scope env).names.lookup y =
  (scope.names.lookup y).map fun k=>if (k == .free && env.scope.kind == .function && env.kindOf y == some .cell)=true then .cell else k:=by
 have key:∀ l:List (Str×NameKind),(l.map fun (n,k)=>if (k == NameKind.free && env.scope.kind == .function && env.kindOf n == some .cell) then (n,NameKind.cell) else (n,k)).lookup y =
   (l.lookup y).map fun k=>if (k == .free && env.scope.kind == .function && env.kindOf y == some .cell)=true then .cell else k:=by
  intro l
  induction l with
  | nil=>rfl
  | cons p l ih =>
    obtain ⟨n,k⟩:=p
    rw [fu]
    show List.lookup y ((if (k == NameKind.free && env.scope.kind == .function && env.kindOf n == some .cell)=true then (n,NameKind.cell) else (n,k)) :: _)=_
    by_cases hc:(k == NameKind.free && env.scope.kind == .function && env.kindOf n == some .cell)=true
    · rw [if_pos hc,FC,FC]
      cases hy:y == n with
      | true =>
        have ey:y=n:=eq_of_beq hy
        subst ey
        show some NameKind.cell=some (if _ then _ else _)
        rw [if_pos hc]
      | false=>exact ih
    · rw [if_neg hc,FC,FC]
      cases hy:y == n with
      | true =>
        have ey:y=n:=eq_of_beq hy
        subst ey
        show some k=some (if _ then _ else _)
        rw [if_neg hc]
      | false=>exact ih
 exact key scope.names
end
def iD (N ts:List Str) (out sc:Scope):Bool :=
 (sc.kind == .function) && sc.names.all (fun p=>(p.2 != .cell) && (p.2 != .free || out.names.lookup p.1 == some .cell || out.names.lookup p.1 == some .free) && (p.2 != .local || sc.names.lookup p.1 == some .local))
   && N.all (fun y=>sc.names.lookup y != some .local) && ts.all (fun y=>sc.names.lookup y == some .local) && decide ((N ++ ts).Nodup)
structure l9 (N ts:List Str) (out sc:Scope):Prop where
 kind:sc.kind = .function
 AB:∀ p∈sc.names,p.2≠.cell
 fr:∀ p∈sc.names,p.2 = .free→out.names.lookup p.1=some .cell∨out.names.lookup p.1=some .free
 names:∀ p∈sc.names,p.2 = .local→sc.names.lookup p.1=some .local
 own:∀ y∈N,sc.names.lookup y≠some .local
 Yw:∀ y∈ts,sc.names.lookup y=some .local
 nd:(N ++ ts).Nodup
theorem pF {N ts:List Str} {out sc:Scope} (h:iD N ts out sc=true):l9 N ts out sc:=by
 unfold iD at h
 rw [il,il,il,il] at h
 obtain ⟨⟨⟨⟨h1,h2⟩,h3⟩,h4⟩,h5⟩:=h
 rw [uN] at h2 h3 h4
 refine ⟨eq_of_beq h1,fun p hp=>?_,fun p hp hf=>?_,fun p hp hl=>?_,fun y hy=>?_,fun y hy=>?_,of_decide_eq_true h5⟩
 · have:=h2 p hp
   rw [il,il] at this
   simpa using this.1.1
 · have:=h2 p hp
   rw [il,il] at this
   have q:=this.1.2
   rw [hf] at q
   simpa using q
 · have:=h2 p hp
   rw [il,il] at this
   have q:=this.2
   rw [hl] at q
   simpa using q
 · simpa using h3 y hy
 · simpa using h4 y hy
def bf (X:Cx) (ts:List Str) (sc:Scope) (cl:List (Str×Addr)) (C:Addr) (fp:List Addr) (s:Shared) (H:Hp):Cx where
 prog:=X.prog
 w:=X.w
 K:=X.K
 mg:=X.mg
 base:=X.base
 A:=X.A
 N:=X.N ++ ts
 s₀:=s
 H₀:=H
 env:=compEnvC sc cl C X.env
 outer:=X.stack
 stack:=X.stack
 ex:=fp
 fn:=fun _=>false
 calm:=X.calm
 pn:=[]
 xe:=fun _ _=>False
section
variable {X:Cx} {pins:List (Addr×Obj)} {σ:St} {H:Hp} {s:Shared} {ts:List Str} {sc:Scope} {cl:List (Str×Addr)} {C D:Addr} {fp:List Addr}
theorem pG (hS:l9 X.N ts X.env.scope sc) {y:Str} (h:uJ (relabel sc X.env) y):sc.names.lookup y=some .local∨(sc.names.lookup y=some .free∧((relabel sc X.env).names.lookup y=some .cell∨(relabel sc X.env).names.lookup y=some .free)):=by
 have e:=i0 (scope:=sc) (env:=X.env) y
 cases hk:sc.names.lookup y with
 | none =>
   rw [hk] at e
   have e':(relabel sc X.env).names.lookup y=none:=e
   rcases h with h | h | h <;> rw [e'] at h <;> cases h
 | some k =>
   have hm:(y,k)∈sc.names:=Fx hk
   rw [hk] at e
   cases k with
   | «local»=>exact .inl rfl
   | cell=>exact absurd rfl (hS.AB _ hm)
   | free =>
     refine .inr ⟨rfl,?_⟩
     rw [e,Option.map_some]
     by_cases hc:(NameKind.free == .free && X.env.scope.kind == .function && X.env.kindOf y == some .cell)=true
     · rw [if_pos hc]; exact .inl rfl
     · rw [if_neg hc]; exact .inr rfl
   | globalExplicit =>
     have e':(relabel sc X.env).names.lookup y=some .globalExplicit:=e
     rcases h with h | h | h <;> rw [e'] at h <;> cases h
   | globalImplicit =>
     have e':(relabel sc X.env).names.lookup y=some .globalImplicit:=e
     rcases h with h | h | h <;> rw [e'] at h <;> cases h
theorem xh (I:Inv X pins σ H s) (hf:∀ b∈fp,jS X pins H b):∀ b∈fp,b∉zM X.stack:=fun b hb z=>by
 obtain ⟨_,f1,f2,_⟩:=hf b hb
 rcases cn.mp (I.uT b z) with e | e
 · exact f1 e
 · exact f2 e
theorem Dw (I:Inv X pins σ H s) (hf:∀ b∈fp,jS X pins H b) (HC:∀ b∈fp,∃ o,s.heap.get? b=some o) (hS:l9 X.N ts X.env.scope sc)
  (c1:∀ y c,cl.lookup y=some c→X.env.cells.lookup y=some c) (c2:∀ p∈sc.names,p.2 = .free→∃ c,cl.lookup p.1=some c)
  (hC:s.heap.objs.size≤C) (hD:s.heap.objs.size≤D) (Qh:D≠C) {h1:Heap} {m:Str→Option Value} {n:Nat} {t:Nat} (k:∀ b o,s.heap.get? b=some o→h1.get? b=some o) (hn:h1.Ns C m)
  (hd:h1.get? D=some { cls:=.type "list",data:=.seq ([]:List Value).toArray n }) :
  Inv (bf X ts sc cl C fp s H) [] (σ ++ ts.map fun _=>none) (upd H D (.lst [])) { s with heap:=h1,toks:=t }:=by
 have sz:=I.sz
 have RK:∀ b∈fp,b < s.heap.objs.size:=fun b hb=>by obtain ⟨o,e⟩:=HC b hb; exact er e
 have C2:∀ y c,cl.lookup y=some c→c < s.heap.objs.size:=fun y c e=>by obtain ⟨v,q⟩:=I.cell y c (c1 y c e); exact q.lt
 have ok:(bf X ts sc cl C fp s H).Ok:=by
  refine ⟨I.ok.mod,hS.kind,I.ok.glob,I.ok.blt,hC,fun x y c e1 e2=>I.ok.inj x y c (c1 x c e1) (c1 y c e2),fun x hx=>?_,fun x c hx=>absurd hx (by simp [bf]),I.ok.hd,I.ok.frames,.inl rfl,fun b hb=>?_,fun b o e=>I.bs b o e,
   kF I.ok.CG sz,fun b o e hb=>?_,xh I hf,I.stack,fun b hb=>I.wQ b hb⟩
  · have hv:uJ (relabel sc X.env) x:=by
     rcases hx with hx | hx
     · exact .inr (.inl hx)
     · exact .inr (.inr hx)
    rcases pG hS hv with z | ⟨z,_⟩
    · have e:=i0 (scope:=sc) (env:=X.env) x
      rw [z] at e
      have e':(relabel sc X.env).names.lookup x=some .local:=e
      have KN:(relabel sc X.env).names.lookup x=some .cell∨(relabel sc X.env).names.lookup x=some .free:=hx
      rw [e'] at KN
      rcases KN with q | q <;> cases q
    · exact c2 _ (Fx z) rfl
  · exact ⟨fun e=>absurd (n_ (RK b hb) hC) (by have e':b=C:=e; rw [e']; exact CC _),fun x c e z=>(hf b hb).2.2.2.2.1 x c (c1 x c e) z⟩
  · rcases (hf b hb).2.2.2.1 with z | z
    · exact I.ok.Ab b o e z
    · exact absurd (n_ (er e) (kF I.ok.CG z)) (CC _)
 have Wg:H D=none:=I.bA.fresh hD
 refine ⟨ok,rfl,I.bare,Un.laid k hD Wg,⟨m,hn,fun i x v e1 e2 e3=>?_⟩,fun x c e=>?_,?_,fun x c e=>?_,fun p hp=>absurd (show p∈([]:List (Addr×Obj)) from hp) (by simp),I.bA.laid k hD ⟨ia _,[],n,.nil,hd⟩,?_⟩
 · have hi:i < σ.length:=by
    by_cases hi:i < σ.length
    · exact hi
    · rw [wN (by omega),oa] at e2
      cases q:ts[i - σ.length]? with
      | none=>rw [q] at e2; cases e2
      | some a=>rw [q] at e2; cases e2
   have CJ:σ[i]?=some (some v):=by rw [qc hi] at e2; exact e2
   have U_:X.N[i]?=some x:=by
    have Mc:(X.N ++ ts)[i]?=some x:=e1
    rw [qc (by rw [← I.len]; exact hi)] at Mc
    exact Mc
   rcases pG hS e3 with z | ⟨z,zr⟩
   · exact absurd z (hS.own x (jO U_))
   · have hm:=Fx z
     have ho:=hS.fr _ hm rfl
     obtain ⟨m0,_,hl⟩:=I.loc
     obtain ⟨u,r,l⟩:=hl i x v U_ CJ (.inr ho)
     obtain ⟨c',Ln⟩:=c2 _ hm rfl
     rcases l with ⟨l,_⟩ | ⟨_,c,hc,z2⟩
     · have l':X.env.scope.names.lookup x=some .local:=l
       rw [l'] at ho
       rcases ho with q | q <;> cases q
     · have ec:=c1 x c' Ln
       rw [hc] at ec
       cases ec
       exact ⟨u,r,.inr ⟨zr,_,Ln,z2.keeps k⟩⟩
 · obtain ⟨v,z⟩:=I.cell x c (c1 x c e)
   exact ⟨v,z.keeps k⟩
 · show upd H D (.lst []) C=none
   rw [aP (Ne.symm Qh)]
   exact I.bA.fresh hC
 · show upd H D (.lst []) c=none
   rw [aP (ip (n_ (C2 x c e) hD))]
   exact I.gE x c (c1 x c e)
 · show (σ ++ ts.map fun _=>none).length=(X.N ++ ts).length
   rw [kS,kS,bU,I.len]
theorem su (I:Inv X pins σ H s) (hf:∀ b∈fp,jS X pins H b) {wU:List (Addr×Obj)} {σ':St} {H':Hp} {s':Shared} (J:Inv (bf X ts sc cl C fp s H) wU σ' H' s'):Inv X pins σ H' s' :=
 I.Lo J.os J.base J.bA J.bare fun b hb=>by
  obtain ⟨_,f1,_,f3,f4,f5⟩:=hf b hb
  exact ⟨f3,f1,f4,f5⟩
end
section
variable {prog:Program} {w:World} {A:Around} {R:Result→Shared→Prop} {s:Shared}
theorem ie {elt target iter:Expr} {ifs:List Expr} {scope:Scope} {pos:Pos} {it acc:Value} {env:Env} (I:Nat→Shared→Prop)
  (turn:∀ n s,I n s→wpAny (model prog w) A (pyNext it) (fun r s₁=>match r with
    | none=>R (.ok .next) s₁
    | some v=>wpAny (model prog w) A (letOwnedTupleGo target it v) (fun _ U'=>wpAny (model prog w) A (assign target env v) (fun _ s₂ =>
       wpAny (model prog w) A (forIn ifs true fun c r=>if r=true then do let ok ← isTrue c env (eval c env); pure (ForInStep.yield ok) else pure (ForInStep.yield r)) (fun ok s₃ =>
        if ok=true then wpAny (model prog w) A (eval elt env) (fun x s₄ =>
         wpAny (model prog w) A (call (.builtin "list.append") [acc,x]) (fun _ s₅=>∃ m,m < n∧I m s₅) (notedBy (model prog w) A env fun e s'=>R (.error e) s') s₄) (notedBy (model prog w) A env fun e s'=>R (.error e) s') s₃
        else ∃ m,m < n∧I m s₃) (notedBy (model prog w) A env fun e s'=>R (.error e) s') s₂) (notedBy (model prog w) A env fun e s'=>R (.error e) s') U')
       (notedBy (model prog w) A env fun e s'=>R (.error e) s') s₁) (notedBy (model prog w) A env fun e s'=>R (.error e) s') s)
  (n:Nat) (h:I n s):codeAny (model prog w) A (.compLoop (.ListComp elt [⟨target,iter,ifs,0⟩] scope pos) 0 it acc env) R s:=by
 refine codeAny_loop rfl I (fun n s hI=>?_) n h
 show wpAny _ A ((compTurn (.ListComp elt [⟨target,iter,ifs,0⟩] scope pos) 0 it acc env).onRaise (fun x=>do noteFrame x env; theTreesLotGoes x)) _ _ s
 refine wpAny_noted ?_
 rw [compTurn_list]
 refine wpAny_bind (wpAny_standAt (wpAny_bind (wpAny_mono (turn n s hI) (fun r s₁ h₁=>?_) fun _ _ h'=>h')))
 cases r with
 | none=>exact wpAny_pure h₁
 | some v =>
   refine wpAny_bind (wpAny_mono h₁ (fun _ U' Wh=>?_) fun _ _ h'=>h')
   refine wpAny_bind (wpAny_mono Wh (fun _ s₂ h₂=>wpAny_bind (wpAny_mono h₂ (fun ok s₃ h₃=>?_) fun _ _ h'=>h')) fun _ _ h'=>h')
   cases ok with
   | false=>exact wpAny_pure ⟨rfl,h₃⟩
   | true =>
     exact wpAny_bind (wpAny_bind (wpAny_mono h₃ (fun x s₄ h₄=>wpAny_bind (wpAny_mono h₄ (fun _ s₅ h₅=>wpAny_pure (wpAny_pure ⟨rfl,h₅⟩)) fun _ _ h'=>h')) fun _ _ h'=>h'))
end
def CK (X:Cx) (ifs:List Expr) (t:TT):Prop :=
 ∀ (pins:List (Addr×Obj)) (s:Shared) (σ:St) (H:Hp) (Q:Bool→Hp→Prop),Inv X pins σ H s→t σ H Q →
  wpAny (model X.prog X.w) X.A (forIn ifs true fun c r=>if r=true then do let ok ← isTrue c X.env (eval c X.env); pure (ForInStep.yield ok) else pure (ForInStep.yield r)) (TP X pins σ Q) X.xe s
def RL:TT:=fun _ H Q=>Q true H
theorem Dx {X:Cx}:CK X [] RL:=fun _ _ _ H _ I h=>wpAny_tests_nil ⟨H,I,h⟩
def sx (J:It) (g:TG) (tt:TT) (te:TE) (n:Nat) (σ:St) (D:Addr) (Q:Hp→Prop) (H1:Hp):Prop :=
 ∃ W:Nat→Nat→List V→Hp→Prop,(∃ m,W 0 m [] (upd H1 D (.lst [])))∧∀ i m acc H2,W i m acc H2→H2 D=some (.lst acc) ∧
  ((J.stop i H2∧Q H2)∨(J.go i H2∧acc.length < sizeLine∧∀ x H3,J.KG i H2 x H3→g x (σ ++ List.replicate n none) H3 fun σ4 H4=>(σ4.length=σ.length+n∧∀ (i:Nat) v,σ[i]?=some (some v)→σ4[i]?=some (some v)) ∧
    tt σ4 H4 fun b H5=>if b=true then te σ4 H5 fun y H6=>H6 D=some (.lst acc)∧∃ m',m' < m∧W (i+1) m' (acc ++ [y]) (upd H6 D (.lst (acc ++ [y]))) else ∃ m',m' < m∧W (i+1) m' acc H5))
section
variable {X:Cx} {pins:List (Addr×Obj)} {σ:St} {H:Hp} {s:Shared} {ts:List Str} {sc:Scope} {cl:List (Str×Addr)} {fp:List Addr}
theorem yk {Y:Cx} {pl:List (Addr×Obj)} {σ4:St} {H':Hp} {s':Shared} {n:Nat} (I:Inv Y pl σ4 H' s') (hl:σ4.length=σ.length+n) (hs:∀ (i:Nat) v,σ[i]?=some (some v)→σ4[i]?=some (some v)) :
  Inv Y pl (σ ++ List.replicate n none) H' s':=by
 refine I.weak (by rw [kS,CW,hl]) fun i v e=>?_
 by_cases hi:i < σ.length
 · rw [qc hi] at e
   exact hs i v e
 · rw [wN (by omega),Fv] at e
   split at e <;> cases e
theorem sy {elt iter tg:Expr} {ifs:List Expr} {pos:Pos} {it:Addr} {tn:Nat→Heap→Prop} {J:It} {g:TG} {tt:TT} {te:TE} {Q:Hp→Prop} {RR:Value→Addr→Result→Shared→Prop} {E:Value→Shared→Prop}
  (hc:X.calm=true) (I:Inv X pins σ H s) (T:Turn X.prog X.w X.K tg J fp it tn) (st:tn 0 s.heap) (hf:∀ b∈fp,jS X pins H b) (hS:l9 X.N ts X.env.scope sc)
  (c1:∀ y c,cl.lookup y=some c→X.env.cells.lookup y=some c) (c2:∀ p∈sc.names,p.2 = .free→∃ c,cl.lookup p.1=some c)
  (hg:∀ C,PG (bf X ts sc cl C fp s H) tg g) (ht:∀ C,CK (bf X ts sc cl C fp s H) ifs tt) (he:∀ C,PE (bf X ts sc cl C fp s H) elt te)
  (hw:sx J g tt te ts.length σ s.heap.objs.size Q H)
  (fin:∀ (C:Addr) (H':Hp) (s':Shared) (σ':St),s.heap.objs.size≤C→Inv (bf X ts sc cl C fp s H) [] σ' H' s'→Q H'→RR (.ref s.heap.objs.size) C (.ok .next) s') :
  wpAny (model X.prog X.w) X.A (newList []) (fun acc s₃=>wpAny (model X.prog X.w) X.A (newFunctionEnv sc X.env.globals cl [] X.env.qual none .none (some X.env)) (fun Md s₄ =>
   codeAny (model X.prog X.w) X.A (.compStart (.ListComp elt [⟨tg,iter,ifs,0⟩] sc pos) 0 (.ref it) acc { Md with scope:=relabel sc X.env }) (RR acc Md.locals) s₄) E s₃) E s:=by
 obtain ⟨W,⟨m0,w0⟩,turn⟩:=hw
 have RM:=T.obj 0 _ st
 have HC:∀ b∈fp,∃ o,s.heap.get? b=some o:=fun b hb=>let ⟨o,e,_⟩:=RM b hb; ⟨o,e⟩
 refine wpAny_newObj_type (wpAny_newFunctionEnv hS.AB (by intro y hy; simp at hy) (fun h₁ HE Dy=>?_) hS.kind)
 dsimp only at HE Dy ⊢
 generalize RN:s.heap.push { cls:=.type "list",dict:=none,data:=.seq ([]:List Value).toArray }=H2 at HE Dy ⊢
 have hC:H2.objs.size=s.heap.objs.size+1:=by rw [← RN,uP]
 have Qh:s.heap.objs.size≠H2.objs.size:=by rw [hC]; exact ip (GO _)
 have Me:s.heap.objs.size≤H2.objs.size:=by rw [hC]; exact KD _
 have below:∀ b,b < s.heap.objs.size→b≠H2.objs.size∧b≠s.heap.objs.size:=fun b hb=>⟨by rw [hC]; exact ip (Le hb),ip hb⟩
 have old:∀ b o,s.heap.get? b=some o→h₁.get? b=some o:=fun b o e=>Dy.extBut b o (below b (er e)).1 (d_ _ (RN▸d_ _ e))
 have RO:h₁.get? s.heap.objs.size=some { cls:=.type "list",data:=.seq ([]:List Value).toArray }:=Dy.extBut _ _ Qh (d_ _ (RN▸ly _ rfl))
 have Mf:tn 0 h₁:=T.keep _ _ _ st fun b hb o e=>old b o e
 have fresh:H s.heap.objs.size=none:=I.bA.fresh (dH _)
 have qm:∀ {H':Hp},(∀ b∈fp,H' b=none)→∀ b∈fp,jS (bf X ts sc cl H2.objs.size fp s H) [] H' b:=fun {H'} hn b hb=>by
  obtain ⟨o,e⟩:=HC b hb
  refine ⟨hn b hb,fun z=>?_,xh I hf b hb,.inl hb,fun x c e z=>(hf b hb).2.2.2.2.1 x c (c1 x c e) z,fun p hp=>absurd (show p∈([]:List (Addr×Obj)) from hp) (by simp)⟩
  have z':b=H2.objs.size:=z
  exact (below b (er e)).1 z'
 have Wi:∀ b∈fp,(upd H s.heap.objs.size (.lst [])) b=none:=fun b hb=>by
  obtain ⟨o,e⟩:=HC b hb
  rw [aP (ip (er e))]
  exact (hf b hb).1
 have eN:(ts.map fun _=>(none:Option V))=List.replicate ts.length none:=List.map_const'
 have loop:∀ s₃:Shared,s₃={ s with heap:=h₁,toks:=s.toks+([]:List (Str×Value)).length } →
   codeAny (model X.prog X.w) X.A (.compLoop (.ListComp elt [⟨tg,iter,ifs,0⟩] sc pos) 0 (.ref it) (.ref s.heap.objs.size) (compEnvC sc cl H2.objs.size X.env)) (RR (.ref s.heap.objs.size) H2.objs.size) s₃:=by
  rintro s₃ rfl
  have J0:=Dw (ts:=ts) (t:=s.toks+([]:List (Str×Value)).length) I hf HC hS c1 c2 Me (dH _) Qh old HE RO
  rw [eN] at J0
  refine ie (fun n s'=>∃ i acc H',Inv (bf X ts sc cl H2.objs.size fp s H) [] (σ ++ List.replicate ts.length none) H' s'∧tn i s'.heap∧(∀ b∈fp,H' b=none)∧W i n acc H') ?_ m0 ⟨0,[],_,J0,Mf,Wi,w0⟩
  rintro n s3 ⟨i,acc,H3,J3,LD,LF,w3⟩
  obtain ⟨Yx,alt⟩:=turn i n acc H3 w3
  rcases alt with ⟨stop,q⟩ | ⟨go,hz,step⟩
  · refine cf (T.done (bf X ts sc cl H2.objs.size fp s H) rfl rfl rfl hc i [] s3 _ H3 _ J3 (qm LF) LD stop) fun r s4 ⟨hr,J4⟩=>?_
    subst hr
    exact fin _ H3 s4 _ Me J4 q
  · refine cf (T.item (bf X ts sc cl H2.objs.size fp s H) rfl rfl rfl hc i [] s3 _ H3 _ J3 (qm LF) LD go) fun r s4 ⟨u,hr,h4⟩=>?_
    subst hr
    refine cf h4 fun _ s5 ⟨x,H5,J5,r5,y5,Hc,Ru⟩=>?_
    have Wj:=J5.pinned (qm Ru) (T.obj _ _ Hc)
    have again:∀ {σ7:St} {H7:Hp} {s7:Shared},Inv (bf X ts sc cl H2.objs.size fp s H) ([] ++ lW fp s5.heap) σ7 H7 s7→(σ7.length=σ.length+ts.length∧∀ (i:Nat) v,σ[i]?=some (some v)→σ7[i]?=some (some v))→∀ HF m',W (i+1) m' HF H7→m' < n →
      ∃ m,m < n∧∃ i acc H',Inv (bf X ts sc cl H2.objs.size fp s H) [] (σ ++ List.replicate ts.length none) H' s7∧tn i s7.heap∧(∀ b∈fp,H' b=none)∧W i m acc H':=fun {σ7 H7 s7} I7 hσ HF m' w7 hm=>by
     refine ⟨m',hm,i+1,HF,H7,yk I7.iX hσ.1 hσ.2,T.keep _ _ _ Hc fun b hb o e=>(I7.pin (b,o) (iR _ (iR _ (fZ hb e)))).1,fun b hb=>?_,w7⟩
     obtain ⟨o,e,d⟩:=T.obj _ _ Hc b hb
     exact (I7.pin (b,o) (iR _ (iR _ (fZ hb e)))).2.1
    refine wpAny_mono (hg H2.objs.size _ s5 _ H5 x u _ Wj r5 (step x H5 y5)) (fun _ s6 ⟨σ6,H6,J6,hσ,q6⟩=>?_) fun _ _ z=>False.elim z
    refine wpAny_mono (ht H2.objs.size _ s6 σ6 H6 _ J6 q6) (fun b s7 ⟨H7,J7,q7⟩=>?_) fun _ _ z=>False.elim z
    cases b with
    | false =>
      obtain ⟨m',hm,w7⟩:=q7
      exact again J7 hσ acc m' w7 hm
    | true =>
      show wpAny _ _ _ _ _ _
      refine wpAny_mono (he H2.objs.size _ s7 σ6 H7 _ J7 q7) (fun y s8 ⟨yv,H8,J8,ry,Wl,m',hm,w8⟩=>?_) fun _ _ z=>False.elim z
      refine wpAny_mono (aY (X:=bf X ts sc cl H2.objs.size fp s H) _ s8 σ6 H8 (.ref s.heap.objs.size) [yv] (.ref s.heap.objs.size) [y] (fun v H9=>v = .bp∧H9=upd H8 s.heap.objs.size (.lst (acc ++ [yv]))) J8 rfl (.cons ry .nil) ⟨_,acc,yv,rfl,rfl,Wl,hz,rfl,rfl⟩) (fun v9 s9 ⟨v,H9,J9,_,_,e9⟩=>?_) fun _ _ z=>False.elim z
      subst e9
      exact again J9 hσ (acc ++ [yv]) m' w8 hm
 exact codeAny_compStart_list (loop _ rfl) (T.self _ 0 _ _ _ Mf (loop _ rfl))
def AD (n:Nat) (wi:TI) (g:TG) (tt:TT) (te:TE):TE:=fun σ H Q=>wi σ H fun J H1=>∀ D,H1 D=none→sx J g tt te n σ D (Q (.ref D)) H1
theorem sA (I:Inv X pins σ H s) (hS:l9 X.N ts X.env.scope sc):∀ p∈sc.names,p.2 = .free→∃ c,X.env.cells.lookup p.1=some c:=fun p hp hf=>by
 rcases hS.fr p hp hf with z | z
 · exact I.ok.has p.1 (.inl z)
 · exact I.ok.has p.1 (.inr z)
theorem Dz {elt iter tg:Expr} {ifs:List Expr} {pos:Pos} {wi:TI} {g:TG} {tt:TT} {te:TE} (hc:X.calm=true) (hS:iD X.N ts X.env.scope sc=true) (hi:PI X tg iter wi)
  (hg:∀ cl C fp s H,PG (bf X ts sc cl C fp s H) tg g) (ht:∀ cl C fp s H,CK (bf X ts sc cl C fp s H) ifs tt) (he:∀ cl C fp s H,PE (bf X ts sc cl C fp s H) elt te)
  (hs:∀ x,foldedSetIterable iter X.env x=pure x:=by intro _; rfl):PE X (.ListComp elt [⟨tg,iter,ifs,0⟩] sc pos) (AD ts.length wi g tt te):=by
 intro pins s σ H Q I h
 have S:=pF hS
 obtain ⟨cl,DA,c1,c2⟩:=gv (sA I S)
 rw [eval_ListComp]
 refine wpAny_comprehension_free (use:=none) rfl hs DA S.kind S.names ?_
 refine cf (hi pins s σ H _ I h) fun v s1 h1=>cf h1 fun P_ s2 h2=>?_
 obtain ⟨it,fp,tn,J,H2,e,I2,T,zO,f2,q2⟩:=h2
 subst e
 refine sy (E:=X.xe) (RR:=fun acc C=>compPost (model X.prog X.w) X.A X.xe none (EP X pins σ Q) acc C) hc I2 T zO f2 S c1 c2 (fun C=>hg cl C fp s2 H2) (fun C=>ht cl C fp s2 H2) (fun C=>he cl C fp s2 H2) (q2 _ (I2.bA.fresh (dH _))) ?_
 intro C H' s' σ' hC J' q'
 obtain ⟨m,hn,_⟩:=J'.loc
 refine ⟨m,hn,fun h' sb=>?_⟩
 have I':=su I2 f2 J'
 have fk:=I2.og (H':=H') hC J'.free
 obtain ⟨f0,f1,_,f3,f4,f5⟩:=fk
 exact ⟨.ref _,H',I'.turned (t':=s'.toks) (fun b o hb e=>(sb.2 b hb).trans e) f0 f1 f3 f4 f5,rfl,q'⟩
theorem DB {i:Nat} {y:Str} {py:Pos} {sC:Pos} {elt iter tg:Expr} {ifs:List Expr} {pos:Pos} {wi:TI} {g:TG} {tt:TT} {te:TE} (hN:X.N.Nodup) (hy:X.N[i]?=some y) (hx:Loc X.env.scope y) (hc:X.calm=true) (hS:iD X.N ts X.env.scope sc=true) (hi:PI X tg iter wi)
  (hg:∀ cl C fp s H,PG (bf X ts sc cl C fp s H) tg g) (ht:∀ cl C fp s H,CK (bf X ts sc cl C fp s H) ifs tt) (he:∀ cl C fp s H,PE (bf X ts sc cl C fp s H) elt te)
  (Mg:swapsWith (.ListComp elt [⟨tg,iter,ifs,0⟩] sc pos) (some (.Name y py)) sC.line X.env=pure true:=by rfl)
  (hs:∀ x,foldedSetIterable iter X.env x=pure x:=by intro _; rfl) (hf:X.fn y=true∨X.env.scope.names.lookup y=some .local:=by first | exact .inl rfl | exact .inr rfl | assumption) :
  PS X (.Assign [.Name y py] (.ListComp elt [⟨tg,iter,ifs,0⟩] sc pos) sC) (Dd (AD ts.length wi g tt te) (gu i)):=by
 intro pins s σ H D I h
 have S:=pF hS
 obtain ⟨cl,DA,c1,c2⟩:=gv (sA I S)
 rw [exec_Assign_Name_used _ _ _ _ Mg]
 refine wpAny_bind (wpAny_standAt (wpAny_bind ?_))
 show wpAny _ X.A (do let _ ← comprehension (.ListComp elt [⟨tg,iter,ifs,0⟩] sc pos) sc X.env _ (newList []) false (eval iter X.env) (some (assign (.Name y py) X.env))) _ _ s
 refine wpAny_bind (wpAny_mono (wpAny_comprehension_free (use:=some (assign (.Name y py) X.env)) (Q:=fun _ s'=>SP X pins D .next s') (E:=X.xe) rfl hs DA S.kind S.names ?_) (fun _ s' hq=>wpAny_pure (wpAny_pure hq)) fun _ _ e=>e)
 refine cf (hi pins s σ H _ I h) fun v s1 h1=>cf h1 fun P_ s2 h2=>?_
 obtain ⟨it,fp,tn,J,H2,e,I2,T,zO,f2,q2⟩:=h2
 subst e
 refine sy (E:=X.xe) (RR:=fun acc C=>compPost (model X.prog X.w) X.A X.xe (some (assign (.Name y py) X.env)) (fun _ s'=>SP X pins D .next s') acc C) hc I2 T zO f2 S c1 c2 (fun C=>hg cl C fp s2 H2) (fun C=>ht cl C fp s2 H2) (fun C=>he cl C fp s2 H2) (q2 _ (I2.bA.fresh (dH _))) ?_
 intro C H' s' σ' hC J' q'
 obtain ⟨m,hn,_⟩:=J'.loc
 have I':=su I2 f2 J'
 have fk:=I2.og (H':=H') hC J'.free
 obtain ⟨f0,f1,_,f3,f4,f5⟩:=fk
 show wpAny _ X.A (assign (.Name y py) X.env (.ref s2.heap.objs.size)) _ _ s'
 refine wpAny_assign_Name (pj (v:=.ref s2.heap.objs.size) I' hN hy hx rfl (fun s3 I3 ⟨a,sb,ha⟩=>?_) hf)
 have Wm:C≠a:=by
  rcases ha with z | z
  · rw [z]; exact f1
  · exact fun e=>f4 y a z e.symm
 refine ⟨m,hn.sameBut sb Wm,fun h' Wn=>?_⟩
 exact ⟨_,H',I3.turned (t':=s3.toks) (fun b o hb e=>(Wn.2 b hb).trans e) f0 f1 f3 f4 f5,q'⟩
end
def Qi (x:Str):It:=⟨fun i _=>i < x.cps.size,fun i H v H'=>H'=H∧∃ c,x.cps[i]?=some c∧v = .str ⟨#[c]⟩,fun i _=>x.cps.size≤i⟩
theorem cO (x:Str):(strIterType x="str_ascii_iterator")∨(strIterType x="str_iterator"):=by
 unfold strIterType
 cases x.cps.all (· < 128)
 · exact .inr rfl
 · exact .inl rfl
theorem AE {P:Program} {w:World} {K:PySem.W.Frag} {tg:Expr} (x:Str) (t:Tok) (it:Addr):Turn P w K tg (Qi x) [it] it (fun i h=>h.IsStrIter it (strIterType x) x t i) where
 mem:=by simp
 obj:=fun i h st b hb=>by
  have e:b=it:=by simpa using hb
  subst e
  obtain ⟨o,e,c,d⟩:=st
  exact ⟨o,e,fun v z=>by rw [d] at z; cases z⟩
 keep:=fun i h h' st k=>by
  obtain ⟨o,e,c,d⟩:=st
  exact ⟨o,k it (by simp) o e,c,d⟩
 item:=by
  intro X hP hw hK hc i pins s σ H E I hf st hg
  subst hP hw hK
  obtain ⟨f0,f1,f2,f3,f4,f5⟩:=hf it (by simp)
  have hi:i < x.cps.size:=hg
  have hx:x.cps[i]?=some x.cps[i]:=by simp [hi]
  have fin:∀ h',h'.IsStrIter it (strIterType x) x t (i+1)→Heap.SameBut it s.heap h'→∃ u,(some (Value.str ⟨#[x.cps[i]]⟩ s.toks):Option Value)=some u ∧
    wpAny (model X.prog X.w) X.A (letOwnedTupleGo tg (.ref it) u) (fun _ s2=>∃ y H',Inv X pins σ H' s2∧RelV y u∧(Qi x).KG i H y H'∧Heap.IsStrIter s2.heap it (strIterType x) x t (i+1)∧∀ b∈[it],H' b=none) E { s with heap:=h',toks:=s.toks+1 }:=fun h' uU sb=>by
   have I1:Inv X pins σ H { s with heap:=h',toks:=s.toks+1 }:=I.turned (t':=s.toks+1) (fun b o hb e=>(sb.2 b hb).trans e) f0 f1 f3 f4 f5
   obtain ⟨o,e,c,d⟩:=id uU
   refine ⟨_,rfl,wY (s:={ s with heap:=h',toks:=s.toks+1 }) e c d ?_ ⟨.str ⟨#[x.cps[i]]⟩,H,I1,⟨_,rfl⟩,⟨rfl,_,hx,rfl⟩,uU,fun b hb=>(hf b hb).1⟩⟩
   rcases cO x with z | z <;> rw [z] <;> decide
  rcases cO x with z | z
  · rw [z] at st fin
    refine wpAny_pyNext_ascii_item st hx fun h' uU sb=>?_
    have:=fin h' uU sb
    rw [← z] at this
    simpa [z] using this
  · rw [z] at st fin
    refine wpAny_pyNext_wide_item st hx fun h' uU sb=>?_
    have:=fin h' uU sb
    simpa [z] using this
 done:=by
  intro X hP hw hK hc i pins s σ H E I hf st hg
  subst hP hw hK
  obtain ⟨f0,f1,f2,f3,f4,f5⟩:=hf it (by simp)
  have hi:x.cps.size≤i:=hg
  have hx:x.cps[i]?=none:=by simp [hi]
  rcases cO x with z | z
  · rw [z] at st
    exact wpAny_pyNext_ascii_end (I.ok.hd hc) st hx fun h' eb=>⟨rfl,I.turned (t':=s.toks) (fun b o hb e=>eb b o hb e) f0 f1 f3 f4 f5⟩
  · rw [z] at st
    exact wpAny_pyNext_wide_end (I.ok.hd hc) st hx fun h' eb=>⟨rfl,I.turned (t':=s.toks) (fun b o hb e=>eb b o hb e) f0 f1 f3 f4 f5⟩
 self:=fun A i s Q E st h=>by
  rcases cO x with z | z
  · rw [z] at st; exact wpAny_pyIter_striter_ascii st h
  · rw [z] at st; exact wpAny_pyIter_striter_wide st h
section
variable {X:Cx} {tg:Expr}
theorem bM (hc:X.calm=true):cM X (.builtin "all") (fun xs H Q=>∃ (p:Addr) (bs:List Bool),xs=[.ref p]∧eB X.K H p (bs.map V.bl)∧Q (.bl (bs.all id)) H):=by
 intro pins s σ H xs us Q I r h
 obtain ⟨p,bs,rfl,hq,q⟩:=h
 obtain ⟨u,rfl,rx⟩:=vals1 r
 cases rx
 obtain ⟨aJ,rv,pl,hz⟩:=I.list hq
 refine call_all_walk (wpAny_pyIter_list pl.isList ?_)
 have fz:p < s.heap.objs.size:=by obtain ⟨o,n,e,_⟩:=pl; exact er e
 have iE:p≠s.heap.objs.size:=ip fz
 have hh:X.A.in1.handled=none:=I.ok.hd hc
 refine ⟨s.heap.objs.size,_,_,_,_,_,fun i=>bs.getD i true,rfl,Walks.list hh s.heap.objs.size p iE aJ.toArray,⟨⟨_,ly _ rfl,rfl,rfl⟩,pl.isList.push _⟩,?_,fun h' tk k=>?_⟩
 · intro i v s' Q' E' hP hQ
   have Va:aJ[i]?=some v:=by simpa using hP
   have hb:i < bs.length:=by
    have:=rv.length
    have h2:=(h9.mp Va).1
    rw [bU] at this
    omega
   obtain ⟨u,e1,r1⟩:=rv.get (i:=i) (x:=.bl bs[i]) (by simp [hb])
   rw [Va] at e1
   cases e1
   obtain rfl:v=Value.bool bs[i]:=r1
   have e3:bs.getD i true=bs[i]:=by simp [List.getD,hb]
   dsimp only at hQ; rw [e3] at hQ
   exact wpAny_truthy_bool hQ
 · have hl:aJ.toArray.size=bs.length:=by have:=rv.length; rw [bU] at this; rw [fq]; omega
   have e:(List.range aJ.toArray.size).all (fun i=>bs.getD i true)=bs.all id:=by
    rw [hl,Lg,uN,uN]
    constructor
    · intro h x hx
      obtain ⟨i,hi,e⟩:=List.mem_iff_getElem.mp hx
      have:=h i (FD.mpr hi)
      simp only [List.getD,n9 hi,Option.getD_some] at this
      rw [← e]; exact this
    · intro h i hi
      have DC:=FD.mp hi
      simp only [List.getD,n9 DC,Option.getD_some]
      exact h _ (GP DC)
   rw [e]
   refine ⟨.bl (bs.all id),H,?_,rfl,q⟩
   have I0:Inv X pins σ H { s with heap:=s.heap.push { cls:=.type "list_iterator",data:=.fields #[.ref p,.int 0 0] } }:=I.kept (t':=s.toks) fun b o e=>d_ _ e
   have fk:=I.og (H':=H) (dH s.heap.objs.size) I.fresh
   obtain ⟨f0,f1,_,f3,f4,f5⟩:=fk
   exact I0.turned (t':=tk) (fun b o hb e=>k b o (by simpa using hb) e) f0 f1 f3 f4 f5
theorem om:zS X "str.startswith" (fun x xs H Q=>∃ z y,x = .str z∧xs=[.str y]∧Q (.bl (Txt.startswith z y)) H):=by
 intro pins s σ H x xs v us Q I rx rs h
 obtain ⟨z,y,rfl,rfl,q⟩:=h
 obtain ⟨t,rfl⟩:=rx
 obtain ⟨u,rfl,t',rfl⟩:=vals1 rs
 exact SC.startswith ⟨.bl _,H,I,rfl,q⟩
theorem l_:∀ {ys:List Str} {us:List Value},Vals (ys.map V.str) us→StrsAre us ys
 | [],us,r=>by rw [FH] at r; cases r; exact .nil
 | y :: ys,us,r=>by
   rw [fu] at r
   cases r with
   | cons r1 r2 =>
     obtain ⟨t,e⟩:=r1
     subst e
     exact .cons y t (l_ r2)
theorem DD:zS X "str.join" (fun x xs H Q=>∃ (z:Str) (p:Addr) (ys:List Str),x = .str z∧xs=[.ref p]∧eB X.K H p (ys.map V.str)∧(ys.map (·.length)).sum+ys.length * z.length≤16777216∧Q (.str (Txt.join z ys)) H):=by
 intro pins s σ H x xs v us Q I rx rs h
 obtain ⟨z,p,ys,rfl,rfl,hq,hz,q⟩:=h
 obtain ⟨t,rfl⟩:=rx
 obtain ⟨u,rfl,r1⟩:=vals1 rs
 cases r1
 obtain ⟨aJ,rv,pl,_⟩:=I.list hq
 exact join_list pl.isList (by simpa using l_ rv) hz fun t' k=>⟨.str _,H,I.tok _,⟨_,rfl⟩,q⟩
def Mh:V→Option Int→Option Int→Hp→VK→Prop:=fun x lo hi H Q=>∃ z,x = .str z∧z.length≤sizeLine∧Q (.str (Txt.slice z lo hi)) H
theorem HG:Ar X Mh:=by
 intro pins s σ H x v vl vu lo hi sl Q I rx hs pl pu h
 obtain ⟨z,rfl,hz,q⟩:=h
 obtain ⟨t,rfl⟩:=rx
 obtain ⟨o,e,c,d⟩:=hs
 refine ⟨"str",_,slot_str_getitem.lookup,typeIs_str _ _ _,?_⟩
 cases pl with
 | none =>
   cases pu with
   | none=>exact wpAny_getItem_str_slice (l:=none) (u:=none) (st:=none) ⟨o,e,c,d⟩ rfl (post_val_or_str ⟨kF (KA z _ _) hz,fun t' k=>⟨.str _,H,I.tok _,⟨_,rfl⟩,q⟩⟩)
   | int j tj=>exact wpAny_getItem_str_slice (l:=none) (u:=some (j,tj)) (st:=none) ⟨o,e,c,d⟩ rfl (post_val_or_str ⟨kF (KA z _ _) hz,fun t' k=>⟨.str _,H,I.tok _,⟨_,rfl⟩,q⟩⟩)
 | int i ti =>
   cases pu with
   | none=>exact wpAny_getItem_str_slice (l:=some (i,ti)) (u:=none) (st:=none) ⟨o,e,c,d⟩ rfl (post_val_or_str ⟨kF (KA z _ _) hz,fun t' k=>⟨.str _,H,I.tok _,⟨_,rfl⟩,q⟩⟩)
   | int j tj=>exact wpAny_getItem_str_slice (l:=some (i,ti)) (u:=some (j,tj)) (st:=none) ⟨o,e,c,d⟩ rfl (post_val_or_str ⟨kF (KA z _ _) hz,fun t' k=>⟨.str _,H,I.tok _,⟨_,rfl⟩,q⟩⟩)
end
def Walk (J:It) (H1:Hp) (xs:List V):Prop:=∀ (i:Nat) H',aK H1 H'→(∀ x,xs[i]?=some x→J.go i H')∧(xs.length≤i→J.stop i H')∧(i < xs.length→∀ x FR,J.KG i H' x FR→FR=H'∧xs[i]?=some x)
theorem sx.map {J:It} {tt:TT} {te:TE} {σ:St} {D:Addr} {Q:Hp→Prop} {H1:Hp} {k:Nat} (xs:List V) (p:V→Bool) (f:V→V) (hk:k=σ.length) (hD:H1 D=none) (hz:xs.length≤sizeLine) (hJ:Walk J H1 xs)
  (ht:∀ (i:Nat) x H' R,xs[i]?=some x→aK H1 H'→(∀ FR,aK H' FR→R (p x) FR)→tt (σ ++ [some x]) H' R)
  (he:∀ (i:Nat) x H' R,xs[i]?=some x→p x=true→aK H1 H'→(∀ FR,aK H' FR→R (f x) FR)→te (σ ++ [some x]) H' R)
  (hq:∀ H',aK H1 H'→H' D=some (.lst ((xs.filter p).map f))→Q H'):sx J (gu k) tt te 1 σ D Q H1:=by
 subst hk
 refine ⟨fun i m acc H2=>i≤xs.length∧m=xs.length - i∧acc=((xs.take i).filter p).map f∧aK H1 H2∧H2 D=some (.lst acc),⟨xs.length,ia _,rfl,by simp,fun b o e=>?_,aX⟩,?_⟩
 · rw [aP (bg e hD)]; exact e
 · rintro i m acc H2 ⟨hi,rfl,rfl,s2,DE⟩
   refine ⟨DE,?_⟩
   obtain ⟨j1,j2,j3⟩:=hJ i H2 s2
   by_cases fz:i < xs.length
   · refine .inr ⟨j1 xs[i] (by simp [fz]),?_,fun x H3 y=>?_⟩
     · have h1:(((xs.take i).filter p).map f).length≤i:=by
        rw [bU]
        refine kF (List.length_filter_le _ _) ?_
        rw [Fz]; omega
       omega
     · obtain ⟨e3,hx⟩:=j3 fz x H3 y
       subst e3
       have eσ:(σ ++ List.replicate 1 none).set σ.length (some x)=σ ++ [some x]:=by
        rw [List.set_append_right _ _ (dH _),Nat.sub_self]; rfl
       show (((σ ++ List.replicate 1 none).set σ.length (some x)).length=σ.length+1∧_)∧_
       rw [eσ]
       refine ⟨⟨by simp,fun i v h=>?_⟩,?_⟩
       · have DC:=(h9.mp h).1
         rw [qc DC]; exact h
       refine ht i x H3 _ hx s2 fun H5 s5=>?_
       have Vb:(xs.take (i+1)).filter p=(xs.take i).filter p ++ (if p x then [x] else []):=take_succ_filter p xs i x hx
       cases hp:p x with
       | false =>
         rw [if_neg iS]
         refine ⟨xs.length - (i+1),by omega,fz,rfl,?_,s2.trans s5,s5 _ _ DE⟩
         rw [Vb,hp]; simp
       | true =>
         rw [if_pos rfl]
         refine he i x H5 _ hx hp (s2.trans s5) fun H6 s6=>?_
         refine ⟨s6 _ _ (s5 _ _ DE),xs.length - (i+1),by omega,fz,rfl,?_,fun b o e=>?_,aX⟩
         · rw [Vb,hp]; simp
         · rw [aP (bg e hD)]; exact s6 _ _ (s5 _ _ (s2 _ _ e))
   · have e:i=xs.length:=by omega
     subst e
     refine .inl ⟨j2 (dH _),hq H2 s2 ?_⟩
     rw [DE,Kw]
theorem aM {H:Hp} {D:Addr} {o:HO} (h:H D=none):aK H (upd H D o):=fun b u e=>by rw [aP (bg e h)]; exact e
section
variable {X:Cx} {pins:List (Addr×Obj)} {σ:St} {H H':Hp} {s:Shared} {h':Heap}
theorem Inv.grown {t':Nat} {ch:List Addr} {t:Addr} {o:HO} (I:Inv X pins σ H s) (k:∀ b u,b∉ch→s.heap.get? b=some u→h'.get? b=some u) (hf:∀ b∈ch,jS X pins H b) (ht:s.heap.objs.size≤t)
  (new:b8 X.prog X.w (upd H t o) h' t o):Inv X pins σ (upd H t o) { s with heap:=h',toks:=t' }:=by
 have hn:H t=none:=I.bA.fresh ht
 have Ac:∀ b u,H b=some u→b∉ch:=fun b u e z=>by rw [(hf b z).1] at e; cases e
 refine I.step (g':=s.gens) (d':=s.drawn) (ch:=ch) (fun b hb=>?_) (fun b u _ _ hc e _=>k b u hc e) (fun b u _ _ hc e _=>⟨u.slots,k b u hc e⟩) (fun b u _ e n=>?_) (fun b u hc e=>⟨u,k b u hc e⟩)
  (fun b xs e=>?_) (fun b u v e=>?_) (fun b ps e=>⟨#[],?_⟩) (fun m hm=>?_) (fun b u e=>?_) I.bare
 · obtain ⟨_,f1,_,f3,f4,f5⟩:=hf b hb
   exact ⟨f3,f1,f4,f5⟩
 · rw [aP (ip (n_ (er e) ht))]; exact n
 · rw [aP (bg e hn)]; exact e
 · rw [aP (bg e hn)]; exact e
 · rw [aP (bg e hn),e]; simp
 · obtain ⟨ob,es,ep,ho,r⟩:=hm
   exact ⟨ob,es,ep,k _ ob (fun z=>(hf _ z).2.1 rfl) ho,r⟩
 · by_cases hb:b=t
   · subst hb; rw [aX] at e; cases e; exact new
   · rw [aP hb] at e
     refine (I.bA b u e).uQ (fun c v hc q=>k c v ?_ q) (fun c q=>by rw [aP (bg q hn)]; exact q) fun c xs q=>by rw [aP (bg q hn)]; exact q
     rcases hc with z | z
     · rw [z]; exact Ac b u e
     · exact Ac c _ z
end
def RP (K:PySem.W.Frag) (a:Addr):It :=
 ⟨fun i H=>∃ xs x,eB K H a xs∧xs[i]?=some x,fun i H v H'=>∃ t x,H t=none∧v = .ref t∧(∀ xs,eB K H a xs→xs[i]?=some x)∧H'=upd H t (.tup [.int (i:Int),x]),fun i H=>∃ xs,eB K H a xs∧xs.length≤i⟩
theorem yl {P:Program} {w:World} {K:PySem.W.Frag} {elts:List Expr} {x1} {tp:Pos} (a e it:Addr) (iE:e≠it) :
  Turn P w K (.Tuple elts x1 tp) (RP K a) [e,it] e (fun i h=>(∃ old,IsEnum h e it (i:Int) old)∧h.IsListIter it a i) where
 mem:=by simp
 obj:=fun i h st b hb=>by
  obtain ⟨⟨old,h1⟩,o,h2,c,d⟩:=st
  rcases cn.mp hb with z | z
  · subst z
    exact ⟨_,h1,fun v z=>by cases z⟩
  · have z':b=it:=by simpa using z
    subst z'
    exact ⟨o,h2,fun v z=>by rw [d] at z; cases z⟩
 keep:=fun i h h' st k=>by
  obtain ⟨⟨old,h1⟩,zO⟩:=st
  exact ⟨⟨old,k e (by simp) _ h1⟩,zO.at fun o q=>k it (by simp) o q⟩
 item:=by
  intro X hP hw hK hc i pins s σ H E I hf st hg
  subst hP hw hK
  obtain ⟨xs,x,hq,hx⟩:=hg
  obtain ⟨aJ,rv,p,hz⟩:=I.list hq
  obtain ⟨u,hu,ru⟩:=rv.get hx
  obtain ⟨⟨old,h1⟩,zO⟩:=st
  refine wpAny_pyNext_enum_item h1 zO p.isList (x:=u) (by simpa using hu) iE fun h₁ FK RQ Wo AF Wq=>?_
  refine ⟨_,rfl,wpAny_letOwnedTupleGo_enum FK fun h₂ Wr oq=>?_⟩
  have ot:Heap.SameBut e h₁ h₂:=oq
  have fz:e < s.heap.objs.size:=er h1
  have RS:s.heap.objs.size≠e:=CD fz
  have kk:∀ b ob,b∉[e,it]→s.heap.get? b=some ob→h₂.get? b=some ob:=fun b ob hb q=>by
   have CF:b≠e:=fun z=>hb (by simp [z])
   have RT:b≠it:=fun z=>hb (by simp [z])
   exact (ot.2 b CF).trans (Wq b ob CF RT q)
  have new:b8 X.prog X.w (upd H s.heap.objs.size (.tup [.int (i:Int),x])) h₂ s.heap.objs.size (.tup [.int (i:Int),x]) :=
   ⟨by show 2≤sizeLine; rw [sizeLine_eq]; decide,[.int i s.toks,u],.cons ⟨_,rfl⟩ (.cons ru .nil),⟨_,(ot.2 _ RS).trans Wo,rfl,_,rfl⟩⟩
  refine ⟨.ref s.heap.objs.size,upd H s.heap.objs.size (.tup [.int (i:Int),x]),I.grown (t':=s.toks+1) kk hf (dH _) new,rfl,⟨_,x,I.fresh,rfl,fun ys hy=>by rw [I.iW hy hq]; exact hx,rfl⟩,⟨⟨u,?_⟩,?_⟩,fun b hb=>?_⟩
  · have:((i:Int)+1)=((i+1:Nat):Int):=by omega
    rw [← this]; exact Wr
  · obtain ⟨o,q,r⟩:=RQ
    exact ⟨o,(ot.2 it (Ne.symm iE)).trans q,r⟩
  · have RU:b < s.heap.objs.size:=by
     rcases cn.mp hb with z | z
     · subst z; exact fz
     · have z':b=it:=by simpa using z
       subst z'
       obtain ⟨o,q,_⟩:=zO
       exact er q
    rw [aP (ip RU)]
    exact (hf b hb).1
 done:=by
  intro X hP hw hK hc i pins s σ H E I hf st hg
  subst hP hw hK
  obtain ⟨xs,hq,hx⟩:=hg
  obtain ⟨aJ,rv,p,hz⟩:=I.list hq
  have hl:=rv.length
  obtain ⟨⟨old,h1⟩,zO⟩:=st
  obtain ⟨f0,f1,f2,f3,f4,f5⟩:=hf it (by simp)
  exact wpAny_pyNext_enum_end (I.ok.hd hc) h1 zO p.isList (by simp; omega) fun h' eb=>⟨rfl,I.turned (t':=s.toks) (fun b o hb q=>eb b o hb q) f0 f1 f3 f4 f5⟩
 self:=fun _ _ _ _ _ st h=>by
  obtain ⟨⟨old,h1⟩,_⟩:=st
  exact wpAny_pyIter_enum h1 h
def Mi (K:PySem.W.Frag) (ta:TA):TI:=fun σ H R=>ta σ H fun vs H1=>∃ a,vs=[.ref a]∧(∃ xs,eB K H1 a xs)∧R (RP K a) H1
section
variable {X:Cx}
theorem boot_enumerate:bootBuiltins "enumerate" = some (.type "enumerate"):=by decide +kernel
theorem DF {elts:List Expr} {x1} {tp:Pos} {a:Expr} {ta:TA} {p pos:Pos} (hg:Gl X "enumerate") (hm:X.mg "enumerate" = none) (ha:PA X [a] ta) (hs:starEach [a] X.env=[(false,eval a X.env)]:=by rfl) :
  PI X (.Tuple elts x1 tp) (.Call (.Name "enumerate" p) [a] [] pos) (Mi X.K ta):=by
 intro pins s σ H R I h
 refine Call_ (jQ I hg hm boot_enumerate (PK (cf (ha pos pins s σ H _ I h) fun us s1 ⟨vs,H1,I1,r1,q1⟩=>?_) hs rfl))
 obtain ⟨b,e,⟨xs,hq⟩,q⟩:=q1
 subst e
 obtain ⟨u,rfl,ru⟩:=vals1 r1
 cases ru
 obtain ⟨aJ,rv,pl,hz⟩:=I1.list hq
 refine call_enumerate_list pl.isList fun h' he hit zP hk=>?_
 have I2:Inv X pins σ H1 { s1 with heap:=h' }:=I1.kept (t':=s1.toks) hk
 refine wpAny_pyIter_enum he ?_
 refine ⟨s1.heap.objs.size+1,[s1.heap.objs.size+1,s1.heap.objs.size],_,_,H1,rfl,I2,yl b _ _ (CD (GO _)),⟨⟨_,he⟩,hit⟩,fun c hc=>?_,q⟩
 rcases cn.mp hc with z | z
 · subst z; exact I1.og (KD _) (I1.bA.fresh (KD _))
 · have z':c=s1.heap.objs.size:=by simpa using z
   subst z'; exact I1.og (dH _) I1.fresh
end
section
variable {X:Cx}
theorem ou (hc:X.calm=true):cM X (.builtin "sum") (fun xs H Q=>∃ (p:Addr) (ns:List Int),xs=[.ref p]∧eB X.K H p (ns.map V.int)∧Q (.int ns.sum) H):=by
 intro pins s σ H xs us Q I r h
 obtain ⟨p,ns,rfl,hq,q⟩:=h
 obtain ⟨u,rfl,rx⟩:=vals1 r
 cases rx
 obtain ⟨aJ,rv,pl,hz⟩:=I.list hq
 have hI:IntsAre aJ ns:=intsAre_of rv
 obtain ⟨xs,e⟩:=hI.allInts.items
 have hn:=hI.numsOf
 have hl:s.heap.IsList p (intItems xs):=by rw [← e]; exact pl.isList
 refine sum_intListG (I.ok.hd hc) hl fun h' tk t' hk=>?_
 have e2:preSum (numAt xs) xs.size=ns.sum:=by
  rw [preSum_eq,QU (by simp),← nums_intItems,← e,List.toList_toArray,hn]
 rw [e2]
 exact ⟨.int ns.sum,H,I.kept hk,⟨_,rfl⟩,q⟩
end
end L2
namespace xi
open PySem Builtin Builtin.Str
def ba:Str:="abcdefghijklmnopqrstuvwxyz"
def ym (c:Nat):Bool:=!(occurrences ba ⟨#[c]⟩ 0 ba.length 1).isEmpty
theorem qo:(("." : String):Str)=⟨#[46]⟩:=by decide +kernel
def bq (x:Str):Bool:=decide (1≤(x.length:Int)) && (decide ((x.length:Int)≤8) && x.cps.toList.all ym)
def qp (x:Str):Bool:=Txt.startswith x "." && bq (Txt.slice x (some 1) none)
theorem d0 {x:Str} (h:bq x=true):x.cps.toList.all ym=true:=by
 unfold bq at h
 rw [il,il] at h
 exact h.2.2
theorem va (x:Str):Txt.startswith (("." : String) ++ x) "." = true:=by
 obtain ⟨⟨l⟩⟩:=x
 rw [qo]
 unfold Txt.startswith subAt
 rw [il]
 refine ⟨?_,?_⟩
 · apply decide_eq_true
   show 0+1≤(#[46] ++ ({ toList:=l }:Array Nat)).size
   simp
 · show (Array.extract (#[46] ++ ({ toList:=l }:Array Nat)) 0 (0+1) == #[46])=true
   rw [beq_iff_eq]
   apply Array.ext'
   simp
theorem yn (x:Str):Txt.slice (("." : String) ++ x) (some 1) none=x:=by
 obtain ⟨⟨l⟩⟩:=x
 rw [qo]
 have hl:(Str.length (Str.mk #[46] ++ Str.mk { toList:=l }))=l.length+1:=by
  show (#[46] ++ ({ toList:=l }:Array Nat)).size=_
  simp
 have hi:strSliceIndices (some 1) none 1 (l.length+1)=(List.range l.length).map (fun k=>k+1):=by
  unfold strSliceIndices sliceRange
  simp only [show (1:Int) > 0 by decide,if_true]
  have e0:max 0 (min (if (1:Int) < 0 then 1+((l.length+1:Nat):Int) else 1) ((l.length+1:Nat):Int))=1:=by
   rw [if_neg (by decide)]; omega
  rw [e0]
  by_cases hn:l.length=0
  · rw [hn]; rfl
  · have e1:((1:Int) < ((l.length+1:Nat):Int)):=by omega
    rw [if_pos e1]
    have e2:((((l.length+1:Nat):Int) - 1+1 - 1) / 1).toNat=l.length:=by
     rw [Int.ediv_one]; omega
    rw [e2]
    apply List.map_congr_left
    intro k hk
    omega
 unfold Txt.slice
 rw [hl,hi]
 have iE:¬ (((1:Int) == 1 && (List.map (fun k=>k+1) (List.range l.length)).length == l.length+1)=true):=by
  rw [il,bU,CB]
  intro q
  have:=beq_iff_eq.mp q.2
  omega
 rw [if_neg iE]
 congr 1
 apply Array.ext'
 rw [List.toList_toArray]
 show List.filterMap (fun i=>(#[46] ++ ({ toList:=l }:Array Nat))[i]?) (List.map (fun k=>k+1) (List.range l.length))=l
 rw [Ld]
 have e:∀ k,((fun i=>(#[46] ++ ({ toList:=l }:Array Nat))[i]?) ∘ fun k=>k+1) k=l[k]?:=fun k=>by
  show (#[46] ++ ({ toList:=l }:Array Nat))[k+1]?=l[k]?
  rw [← PV]
  simp
 rw [show ((fun i=>(#[46] ++ ({ toList:=l }:Array Nat))[i]?) ∘ fun k=>k+1)=fun k=>l[k]? from funext e]
 clear e iE hi hl
 induction l with
 | nil=>rfl
 | cons a r ih =>
   rw [wO,QV,lx]
   simp only [K',Ld]
   congr 1
theorem yo {x:Str} (h:bq x=true):qp (("." : String) ++ x)=true:=by
 unfold qp
 rw [va,yn,h]
 rfl
theorem xj (x:Str):((("." : String):Str) ++ x).length=x.length+1:=by
 rw [qo]
 show (#[46] ++ x.cps).size=_
 simp [Str.length]
 omega
end xi
namespace VT
open PySem PySem.Spec PyProof.Rows L2
abbrev St:=L2.St
inductive T where
 | bp | bl (b:Bool) | int (i:Int) | str (x:Str) | tup (l:List T) | lst (l:List T) | dk (ks:List Key) (vs:List T) | dt (ks:List (List Key)) (vs:List T) | df (o:Obj) (ks:List (List Key)) (vs:List T) | dz (o:Obj) (ks:List Key) (vs:List T) | kt (k:List Key) | ins (C:Addr) (ns:List Str) (vs:List T) | pin (a:Addr) (t:T) | ob (a:Addr) | ty (n:String)
def ow (K:PySem.W.Frag) (H:Hp) (O:List Addr) (a:Addr) (vs:List V):Prop :=
 (Rd H a (.lst vs)∧a∉O)∨∃ (o:Obj) (aJ:Array Value) (n:Nat),K.lookup a=some o∧o.cls = .type "list"∧o.dict=none∧o.data = .seq aJ n∧aJ.size≤sizeLine∧Vals vs aJ.toList
theorem ow.sq {K:PySem.W.Frag} {H:Hp} {O:List Addr} {a:Addr} {vs:List V} (h:ow K H O a vs):eB K H a vs:=by
 rcases h with h | h
 · exact .inl h.1
 · exact .inr h
def oy (H:Hp) (O:List Addr) (a:Addr) (u:HO):Prop:=H a=some u∧a∉O
mutual
def At (K:PySem.W.Frag) (H:Hp) (O:List Addr):T→V→Prop
 | .bp,v=>v = .bp
 | .bl b,v=>v = .bl b
 | .int i,v=>v = .int i
 | .str x,v=>v = .str x
 | .ob a,v=>v = .ref a
 | .ty n,v=>v = .ty n
 | .tup ts,v=>∃ a vs,v = .ref a∧dq K H a vs∧au K H O ts vs
 | .lst ts,v=>∃ a vs,v = .ref a∧ow K H O a vs∧au K H O ts vs
 | .dk ks ts,v=>∃ a vs,v = .ref a∧ks.length=vs.length∧oy H O a (.dK (ks.zip vs))∧au K H O ts vs
 | .dt ks ts,v=>∃ a vs,v = .ref a∧ks.length=vs.length∧oy H O a (.dT (ks.zip vs))∧au K H O ts vs
 | .df o ks ts,v=>∃ a vs,v = .ref a∧ks.length=vs.length∧oy H O a (.sd o (.dT (ks.zip vs)))∧au K H O ts vs
 | .dz o ks ts,v=>∃ a vs,v = .ref a∧ks.length=vs.length∧oy H O a (.sd o (.dK (ks.zip vs)))∧au K H O ts vs
 | .kt k,v=>∃ a,v = .ref a∧oy H O a (.tup (k.map kV))
 | .pin a t,v=>v = .ref a∧At K H O t v
 | .ins C ns ts,v=>∃ a dx vs,v = .ref a∧ns.length=vs.length∧oy H O a (.ins C dx (ns.zip vs))∧au K H O ts vs
def au (K:PySem.W.Frag) (H:Hp) (O:List Addr):List T→List V→Prop
 | [],vs=>vs=[]
 | t :: ts,vs=>∃ v r,vs=v :: r∧At K H O t v∧au K H O ts r
end
section
variable {K:PySem.W.Frag} {H H':Hp} {O O':List Addr}
mutual
theorem At.map (hl:∀ a vs,ow K H O a vs→ow K H' O' a vs) (ht:∀ a vs,dq K H a vs→dq K H' a vs) (hd:∀ a u,oy H O a u→oy H' O' a u):∀ {t:T} {v:V},At K H O t v→At K H' O' t v
 | .bp,_,h=>by simpa only [At] using h
 | .bl _,_,h=>by simpa only [At] using h
 | .int _,_,h=>by simpa only [At] using h
 | .str _,_,h=>by simpa only [At] using h
 | .ob _,_,h=>by simpa only [At] using h
 | .ty _,_,h=>by simpa only [At] using h
 | .tup ts,_,h=>by
   simp only [At] at h ⊢
   obtain ⟨a,vs,e,h1,h2⟩:=h
   exact ⟨a,vs,e,ht a vs h1,au.map hl ht hd h2⟩
 | .lst ts,_,h=>by
   simp only [At] at h ⊢
   obtain ⟨a,vs,e,h1,h2⟩:=h
   exact ⟨a,vs,e,hl a vs h1,au.map hl ht hd h2⟩
 | .dk ks ts,_,h=>by
   simp only [At] at h ⊢
   obtain ⟨a,vs,e,h0,h1,h2⟩:=h
   exact ⟨a,vs,e,h0,hd _ _ h1,au.map hl ht hd h2⟩
 | .dt ks ts,_,h=>by
   simp only [At] at h ⊢
   obtain ⟨a,vs,e,h0,h1,h2⟩:=h
   exact ⟨a,vs,e,h0,hd _ _ h1,au.map hl ht hd h2⟩
 | .df o ks ts,_,h=>by
   simp only [At] at h ⊢
   obtain ⟨a,vs,e,h0,h1,h2⟩:=h
   exact ⟨a,vs,e,h0,hd _ _ h1,au.map hl ht hd h2⟩
 | .dz o ks ts,_,h=>by
   simp only [At] at h ⊢
   obtain ⟨a,vs,e,h0,h1,h2⟩:=h
   exact ⟨a,vs,e,h0,hd _ _ h1,au.map hl ht hd h2⟩
 | .kt k,_,h=>by
   simp only [At] at h ⊢
   obtain ⟨a,e,h1⟩:=h
   exact ⟨a,e,hd _ _ h1⟩
 | .pin a t,_,h=>by
   simp only [At] at h ⊢
   exact ⟨h.1,At.map hl ht hd h.2⟩
 | .ins C ns ts,_,h=>by
   simp only [At] at h ⊢
   obtain ⟨a,dx,vs,e,h0,h1,h2⟩:=h
   exact ⟨a,dx,vs,e,h0,hd _ _ h1,au.map hl ht hd h2⟩
theorem au.map (hl:∀ a vs,ow K H O a vs→ow K H' O' a vs) (ht:∀ a vs,dq K H a vs→dq K H' a vs) (hd:∀ a u,oy H O a u→oy H' O' a u):∀ {ts:List T} {vs:List V},au K H O ts vs→au K H' O' ts vs
 | [],_,h=>by simpa only [au] using h
 | t :: ts,_,h=>by
   simp only [au] at h ⊢
   obtain ⟨v,r,e,h1,h2⟩:=h
   exact ⟨v,r,e,At.map hl ht hd h1,au.map hl ht hd h2⟩
end
theorem Rd.same {a:Addr} {u:HO} (s:aK H H') (h:Rd H a u):Rd H' a u:=by
 rcases h with h | ⟨o,h⟩
 · exact .inl (s _ _ h)
 · exact .inr ⟨o,s _ _ h⟩
theorem dq.same {a:Addr} {vs:List V} (s:aK H H') (h:dq K H a vs):dq K H' a vs:=by
 rcases h with h | h
 · exact .inl (Rd.same s h)
 · exact .inr h
theorem ow.same {a:Addr} {vs:List V} (s:aK H H') (h:ow K H O a vs):ow K H' O a vs:=by
 rcases h with h | h
 · exact .inl ⟨Rd.same s h.1,h.2⟩
 · exact .inr h
theorem At.same {t:T} {v:V} (s:aK H H') (h:At K H O t v):At K H' O t v:=At.map (fun _ _ q=>q.same s) (fun _ _ q=>dq.same s q) (fun _ _ q=>⟨s _ _ q.1,q.2⟩) h
theorem au.same {t:List T} {v:List V} (s:aK H H') (h:au K H O t v):au K H' O t v:=au.map (fun _ _ q=>q.same s) (fun _ _ q=>dq.same s q) (fun _ _ q=>⟨s _ _ q.1,q.2⟩) h
theorem At.bh {t:T} {v:V} (s:∀ a∈O',a∈O) (h:At K H O t v):At K H O' t v :=
 At.map (fun a vs q=>q.elim (fun z=>.inl ⟨z.1,fun m=>z.2 (s a m)⟩) .inr) (fun _ _ q=>q) (fun a _ q=>⟨q.1,fun m=>q.2 (s a m)⟩) h
theorem au.bh {t:List T} {v:List V} (s:∀ a∈O',a∈O) (h:au K H O t v):au K H O' t v :=
 au.map (fun a vs q=>q.elim (fun z=>.inl ⟨z.1,fun m=>z.2 (s a m)⟩) .inr) (fun _ _ q=>q) (fun a _ q=>⟨q.1,fun m=>q.2 (s a m)⟩) h
theorem Rd.some {a:Addr} {u:HO} (h:Rd H a u):H a≠none:=by
 rcases h with h | ⟨o,h⟩ <;> rw [h] <;> simp
theorem At.more {t:T} {v:V} (s:∀ a∈O',a∈O∨H a=none) (h:At K H O t v):At K H O' t v :=
 At.map (fun a vs q=>q.elim (fun z=>.inl ⟨z.1,fun m=>(s a m).elim z.2 (Rd.some z.1)⟩) .inr) (fun _ _ q=>q) (fun a aU q=>⟨q.1,fun m=>(s a m).elim q.2 (by rw [q.1]; simp)⟩) h
theorem au.more {t:List T} {v:List V} (s:∀ a∈O',a∈O∨H a=none) (h:au K H O t v):au K H O' t v :=
 au.map (fun a vs q=>q.elim (fun z=>.inl ⟨z.1,fun m=>(s a m).elim z.2 (Rd.some z.1)⟩) .inr) (fun _ _ q=>q) (fun a aU q=>⟨q.1,fun m=>(s a m).elim q.2 (by rw [q.1]; simp)⟩) h
def sD:HO→Bool
 | .lst _=>true
 | .dK _=>true
 | .dT _=>true
 | .ins _ _ _=>true
 | _=>false
theorem At.wrote {t:T} {v:V} {a:Addr} {o u:HO} (ha:a∈O) (hu:H a=some u) (hm:sD u=true) (h:At K H O t v):At K (upd H a o) O t v:=by
 have ne:∀ b,b∉O→b≠a:=fun b hb e=>hb (by rw [e]; exact ha)
 refine At.map (fun b vs q=>?_) (fun b vs q=>?_) (fun b aU q=>?_) h
 · rcases q with q | q
   · refine .inl ⟨?_,q.2⟩
     rcases q.1 with z | ⟨o',z⟩
     · exact .inl (by rw [aP (ne b q.2)]; exact z)
     · exact .inr ⟨o',by rw [aP (ne b q.2)]; exact z⟩
   · exact .inr q
 · rcases q with z | z
   · refine .inl ?_
     rcases z with z | ⟨o',z⟩
     · exact .inl (by rw [aP (FJ z hu (by intro e; subst e; cases hm))]; exact z)
     · exact .inr ⟨o',by rw [aP (FJ z hu (by intro e; subst e; cases hm))]; exact z⟩
   · exact .inr z
 · exact ⟨by rw [aP (ne b q.2)]; exact q.1,q.2⟩
theorem au.iff {ts:List T}:∀ {vs:List V},au K H O ts vs↔Paired (fun v t=>At K H O t v) vs ts:=by
 induction ts with
 | nil=>intro vs; simp only [au]; exact ⟨fun e=>by subst e; exact .nil,fun h=>by cases h; rfl⟩
 | cons t ts ih =>
   intro vs
   simp only [au]
   constructor
   · rintro ⟨v,r,rfl,h1,h2⟩
     exact .cons h1 (ih.mp h2)
   · intro h
     cases h with
     | cons h1 h2=>exact ⟨_,_,rfl,h1,ih.mpr h2⟩
theorem au.wrote {t:List T} {v:List V} {a:Addr} {o u:HO} (ha:a∈O) (hu:H a=some u) (hm:sD u=true) (h:au K H O t v):au K (upd H a o) O t v :=
 au.iff.mpr (Paired.lU (au.iff.mp h) fun _ _ q=>q.wrote ha hu hm)
theorem au.length {ts:List T} {vs:List V} (h:au K H O ts vs):vs.length=ts.length:=Paired.length (au.iff.mp h)
theorem au.get {ts:List T} {vs:List V} (h:au K H O ts vs) {i:Nat} {t:T} (e:ts[i]?=some t):∃ v,vs[i]?=some v∧At K H O t v:=by
 have q:=au.iff.mp h
 clear h
 induction q generalizing i with
 | nil=>simp at e
 | cons r _ ih =>
   cases i with
   | zero=>simp at e; subst e; exact ⟨_,rfl,r⟩
   | succ i=>obtain ⟨v,h1,h2⟩:=ih (i:=i) (by simpa using e); exact ⟨v,by simpa using h1,h2⟩
theorem au.cons {t:T} {ts:List T} {v:V} {vs:List V} (h:At K H O t v) (hs:au K H O ts vs):au K H O (t :: ts) (v :: vs):=by
 simp only [au]; exact ⟨v,vs,rfl,h,hs⟩
theorem au.nil:au K H O [] []:=by simp only [au]
theorem au.append {ts us:List T} {vs ws:List V} (h:au K H O ts vs) (h':au K H O us ws):au K H O (ts ++ us) (vs ++ ws):=by
 rw [au.iff] at h h' ⊢
 induction h with
 | nil=>exact h'
 | cons r _ ih=>exact .cons r ih
theorem au.drop {ts:List T} {vs:List V} (n:Nat) (h:au K H O ts vs):au K H O (ts.drop n) (vs.drop n):=by
 rw [au.iff] at h ⊢
 induction h generalizing n with
 | nil=>cases n <;> exact .nil
 | cons r t ih=>cases n with
   | zero=>exact .cons r t
   | succ n=>exact ih n
theorem au.take {ts:List T} {vs:List V} (n:Nat) (h:au K H O ts vs):au K H O (ts.take n) (vs.take n):=by
 rw [au.iff] at h ⊢
 induction h generalizing n with
 | nil=>cases n <;> exact .nil
 | cons r t ih=>cases n with
   | zero=>exact .nil
   | succ n=>exact .cons r (ih n)
theorem au.set {ts:List T} {vs:List V} {t:T} {v:V} (i:Nat) (h:au K H O ts vs) (q:At K H O t v):au K H O (ts.set i t) (vs.set i v):=by
 rw [au.iff] at h ⊢
 induction h generalizing i with
 | nil=>exact .nil
 | cons r s ih=>cases i with
   | zero=>exact .cons q s
   | succ i=>exact .cons r (ih i)
theorem au.reverse {ts:List T} {vs:List V} (h:au K H O ts vs):au K H O ts.reverse vs.reverse:=by
 induction ts generalizing vs with
 | nil=>simp only [au] at h; subst h; exact au.nil
 | cons t ts ih =>
   simp only [au] at h
   obtain ⟨v,r,rfl,h1,h2⟩:=h
   rw [P5,P5]
   exact (ih h2).append (au.cons h1 au.nil)
end
mutual
def jY:T→Bool
 | .tup ts=>oz ts
 | .lst _=>false
 | .dk _ _=>false
 | .dt _ _=>false
 | .df _ _ _=>false
 | .dz _ _ _=>false
 | .kt _=>false
 | .ins _ _ _=>false
 | .pin _ _=>false
 | _=>true
def oz:List T→Bool
 | []=>true
 | t :: ts=>jY t && oz ts
end
section
variable {K:PySem.W.Frag} {H H':Hp} {O O':List Addr}
mutual
theorem At.jY:∀ {t:T} {v:V},jY t=true→At K H O t v→At K H O' t v
 | .bp,_,_,h=>by simpa only [At] using h
 | .bl _,_,_,h=>by simpa only [At] using h
 | .int _,_,_,h=>by simpa only [At] using h
 | .str _,_,_,h=>by simpa only [At] using h
 | .ob _,_,_,h=>by simpa only [At] using h
 | .ty _,_,_,h=>by simpa only [At] using h
 | .tup ts,_,i,h=>by
   simp only [At] at h ⊢
   simp only [VT.jY] at i
   obtain ⟨a,vs,e,h1,h2⟩:=h
   exact ⟨a,vs,e,h1,au.jY i h2⟩
 | .lst ts,_,i,h=>by simp only [VT.jY] at i; cases i
 | .dk _ _,_,i,h=>by simp only [VT.jY] at i; cases i
 | .dt _ _,_,i,h=>by simp only [VT.jY] at i; cases i
 | .df _ _ _,_,i,h=>by simp only [VT.jY] at i; cases i
 | .dz _ _ _,_,i,h=>by simp only [VT.jY] at i; cases i
 | .kt _,_,i,h=>by simp only [VT.jY] at i; cases i
 | .ins _ _ _,_,i,h=>by simp only [VT.jY] at i; cases i
 | .pin _ _,_,i,h=>by simp only [VT.jY] at i; cases i
theorem au.jY:∀ {ts:List T} {vs:List V},oz ts=true→au K H O ts vs→au K H O' ts vs
 | [],_,_,h=>by simpa only [au] using h
 | t :: ts,_,i,h=>by
   simp only [VT.oz,il] at i
   simp only [au] at h ⊢
   obtain ⟨v,r,e,h1,h2⟩:=h
   exact ⟨v,r,e,At.jY i.1 h1,au.jY i.2 h2⟩
end
end
abbrev En:=List (Option (T×Bool))
structure Zc where
 H0:Hp
 P:List (Nat×Addr)
 Ox:List Addr
def Zc.ex (Z:Zc) (a:Addr):Zc:={ Z with Ox:=a :: Z.Ox }
def cq (K:PySem.W.Frag) (H:Hp) (A:List Addr) (a:Addr):T→Prop
 | .lst ts=>∃ vs,H a=some (.lst vs)∧au K H A ts vs
 | .dk ks ts=>∃ vs,ks.length=vs.length∧H a=some (.dK (ks.zip vs))∧au K H A ts vs
 | .dt ks ts=>∃ vs,ks.length=vs.length∧H a=some (.dT (ks.zip vs))∧au K H A ts vs
 | .ins C ns ts=>∃ dx vs,ns.length=vs.length∧H a=some (.ins C dx (ns.zip vs))∧au K H A ts vs
 | _=>False
def ma (K:PySem.W.Frag) (H:Hp) (A:List Addr):Option (T×Bool)→Option Addr→Option V→Prop
 | none,o,_=>o=none
 | some (t,false),o,s=>o=none∧∃ v,s=some v∧At K H A t v
 | some (t,true),o,s=>∃ a,o=some a∧s=some (.ref a)∧cq K H A a t
def roots (O:List (Option Addr)):List Addr:=O.filterMap id
def av (Z:Zc) (O:List (Option Addr)):List Addr:=roots O ++ Z.Ox
structure aq (K:PySem.W.Frag) (Z:Zc) (tm:List (T×V)) (O:List (Option Addr)) (ρ:En) (σ:St) (H:Hp):Prop where
 lσ:σ.length=ρ.length
 lO:O.length=ρ.length
 sl:∀ (i:Nat) e,ρ[i]?=some e→∃ o s,O[i]?=some o∧σ[i]?=some s∧ma K H (av Z O) e o s
 nd:(roots O).Nodup
 own:∀ a∈roots O,(a∈Z.P.map (·.2)∨Z.H0 a=none)∧a∉Z.Ox∧∃ u,H a=some u∧sD u=true
 par:∀ p∈Z.P,O[p.1]?=some (some p.2)
 ox:∀ a∈Z.Ox,H a≠none
 keep:∀ b o,Z.H0 b=some o→b∉Z.P.map (·.2)→H b=some o
 oA:∀ p∈tm,At K H (av Z O) p.1 p.2
section
variable {K:PySem.W.Frag} {Z:Zc} {tm:List (T×V)} {O:List (Option Addr)} {ρ:En} {σ:St} {H H':Hp}
theorem cq.map {A A':List Addr} {a:Addr} {t:T} (h:cq K H A a t) (h1:H' a=H a) (h2:∀ ts vs,au K H A ts vs→au K H' A' ts vs):cq K H' A' a t:=by
 cases t with
 | lst ts=>obtain ⟨vs,e,q⟩:=h; exact ⟨vs,h1.trans e,h2 _ _ q⟩
 | dk ks ts=>obtain ⟨vs,l,e,q⟩:=h; exact ⟨vs,l,h1.trans e,h2 _ _ q⟩
 | dt ks ts=>obtain ⟨vs,l,e,q⟩:=h; exact ⟨vs,l,h1.trans e,h2 _ _ q⟩
 | ins C ns ts=>obtain ⟨dx,vs,l,e,q⟩:=h; exact ⟨dx,vs,l,h1.trans e,h2 _ _ q⟩
 | _=>exact h.elim
theorem cq.mut {A:List Addr} {a:Addr} {t:T} (h:cq K H A a t):∃ u,H a=some u∧sD u=true:=by
 cases t with
 | lst ts=>obtain ⟨vs,e,q⟩:=h; exact ⟨_,e,rfl⟩
 | dk ks ts=>obtain ⟨vs,l,e,q⟩:=h; exact ⟨_,e,rfl⟩
 | dt ks ts=>obtain ⟨vs,l,e,q⟩:=h; exact ⟨_,e,rfl⟩
 | ins C ns ts=>obtain ⟨dx,vs,l,e,q⟩:=h; exact ⟨_,e,rfl⟩
 | _=>exact h.elim
theorem cq.bh {A A':List Addr} {a:Addr} {t:T} (h:cq K H A a t) (s:∀ b∈A',b∈A):cq K H A' a t:=h.map rfl fun _ _ q=>q.bh s
theorem cq.same {A:List Addr} {a:Addr} {t:T} (h:cq K H A a t) (s:aK H H'):cq K H' A a t:=by
 obtain ⟨u,e,_⟩:=h.mut
 exact h.map (by rw [e]; exact s _ _ e) fun _ _ q=>q.same s
theorem cq.at {A:List Addr} {a:Addr} {t:T} (h:cq K H A a t) (n:a∉A):At K H A t (.ref a):=by
 cases t with
 | lst ts=>obtain ⟨vs,e,q⟩:=h; simp only [At]; exact ⟨a,vs,rfl,.inl ⟨.inl e,n⟩,q⟩
 | dk ks ts=>obtain ⟨vs,l,e,q⟩:=h; simp only [At]; exact ⟨a,vs,rfl,l,⟨e,n⟩,q⟩
 | dt ks ts=>obtain ⟨vs,l,e,q⟩:=h; simp only [At]; exact ⟨a,vs,rfl,l,⟨e,n⟩,q⟩
 | ins C ns ts=>obtain ⟨dx,vs,l,e,q⟩:=h; simp only [At]; exact ⟨a,dx,vs,rfl,l,⟨e,n⟩,q⟩
 | _=>exact h.elim
theorem ma.map {A A':List Addr} {e:Option (T×Bool)} {o:Option Addr} {s:Option V} (h:ma K H A e o s) (h1:∀ t v,At K H A t v→At K H' A' t v) (h2:∀ a t,o=some a→cq K H A a t→cq K H' A' a t):ma K H' A' e o s:=by
 match e,h with
 | none,h=>exact h
 | some (t,false),⟨e,v,es,q⟩=>exact ⟨e,v,es,h1 _ _ q⟩
 | some (t,true),⟨a,e,es,q⟩=>exact ⟨a,e,es,h2 _ _ e q⟩
theorem aH {a:Addr}:a∈roots O↔some a∈O:=by
 unfold roots
 rw [List.mem_filterMap]
 exact ⟨fun ⟨x,h,e⟩=>by rw [id] at e; rw [← e]; exact h,fun h=>⟨_,h,rfl⟩⟩
theorem aq.KO (I:aq K Z tm O ρ σ H):∀ a∈av Z O,H a≠none:=fun a h=>by
 rcases gD.mp h with h | h
 · obtain ⟨_,_,u,e,_⟩:=I.own a h; rw [e]; simp
 · exact I.ox a h
theorem aq.same (I:aq K Z tm O ρ σ H) (s:aK H H'):aq K Z tm O ρ σ H' :=
 ⟨I.lσ,I.lO,fun i e h=>let ⟨o,w,h1,h2,h3⟩:=I.sl i e h; ⟨o,w,h1,h2,h3.map (fun _ _ q=>q.same s) fun _ _ _ q=>q.same s⟩,I.nd,
   fun a h=>let ⟨h1,h2,u,e,m⟩:=I.own a h; ⟨h1,h2,u,s _ _ e,m⟩,I.par,fun a h=>by
    cases e:H a with
    | none=>exact absurd e (I.ox a h)
    | some u=>rw [s _ _ e]; simp,
   fun b o e n=>s _ _ (I.keep b o e n),fun p hp=>(I.oA p hp).same s⟩
theorem ck (i:Nat):∀ a∈roots (O.set i none),a∈roots O:=fun a h=>by
 rw [aH] at h ⊢
 rcases K_ h with z | z
 · exact z
 · cases z
theorem eY:∀ (O:List (Option Addr)) (i:Nat),(roots O).Nodup→(roots (O.set i none)).Nodup
 | [],i,h=>by simpa using h
 | o :: O,0,h=>by
   cases o with
   | none=>simpa [roots] using h
   | some a=>simp only [roots,P0,lx,id] at h ⊢; exact (pe.mp h).2
 | o :: O,i+1,h=>by
   have key:=eY O i
   cases o with
   | none=>simp only [roots,Ku,lx,id] at h ⊢; exact key h
   | some a =>
     simp only [roots,Ku,lx,id] at h ⊢
     rw [pe] at h ⊢
     exact ⟨fun z=>h.1 (ck i a z),key h.2⟩
theorem cb (i:Nat):∀ a∈av Z (O.set i none),a∈av Z O:=fun a h=>by
 rcases gD.mp h with h | h
 · exact iU _ (ck i a h)
 · exact iR _ h
theorem get_set {α:Type} {l:List α} {i j:Nat} {x y:α} (h:(l.set i x)[j]?=some y):(j=i∧y=x∧i < l.length)∨(j≠i∧l[j]?=some y):=by
 rw [List.getElem?_set] at h
 by_cases e:i=j
 · rw [if_pos e] at h
   by_cases hl:i < l.length
   · rw [if_pos hl] at h
     exact .inl ⟨e.symm,(Option.some.inj h).symm,hl⟩
   · rw [if_neg hl] at h; cases h
 · rw [if_neg e] at h
   exact .inr ⟨fun z=>e z.symm,h⟩
theorem aq.put (I:aq K Z tm O ρ σ H) {i:Nat} {t:T} {v:V} (hp:∀ p∈Z.P,p.1≠i) (hv:At K H (av Z O) t v):aq K Z tm (O.set i none) (ρ.set i (some (t,false))) (σ.set i (some v)) H:=by
 have fw:∀ {t:T} {v:V},At K H (av Z O) t v→At K H (av Z (O.set i none)) t v:=fun q=>q.bh (cb i)
 refine ⟨by simp [I.lσ],by simp [I.lO],fun j e h=>?_,eY _ _ I.nd,fun a h=>I.own a (ck i a h),fun p q=>?_,I.ox,I.keep,fun p q=>fw (I.oA p q)⟩
 · rcases get_set h with ⟨rfl,rfl,hl⟩ | ⟨ne,h⟩
   · exact ⟨none,some v,by rw [CA (by rw [I.lO]; exact hl)],by rw [CA (by rw [I.lσ]; exact hl)],rfl,v,rfl,fw hv⟩
   · obtain ⟨o,s,h1,h2,h3⟩:=I.sl j e h
     exact ⟨o,s,by rw [uM (Ne.symm ne)]; exact h1,by rw [uM (Ne.symm ne)]; exact h2,h3.map (fun _ _ q=>fw q) fun _ _ _ q=>q.bh (cb i)⟩
 · rw [uM (Ne.symm (hp p q))]; exact I.par p q
theorem aq.forget (I:aq K Z tm O ρ σ H) {i:Nat} (hp:∀ p∈Z.P,p.1≠i):aq K Z tm (O.set i none) (ρ.set i none) σ H:=by
 have fw:∀ {t:T} {v:V},At K H (av Z O) t v→At K H (av Z (O.set i none)) t v:=fun q=>q.bh (cb i)
 refine ⟨by simp [I.lσ],by simp [I.lO],fun j e h=>?_,eY _ _ I.nd,fun a h=>I.own a (ck i a h),fun p q=>?_,I.ox,I.keep,fun p q=>fw (I.oA p q)⟩
 · rcases get_set h with ⟨rfl,rfl,hl⟩ | ⟨ne,h⟩
   · obtain ⟨s,hs⟩:∃ s,σ[j]?=some s:=⟨σ[j]'(by rw [I.lσ]; exact hl),by simp⟩
     exact ⟨none,s,by rw [CA (by rw [I.lO]; exact hl)],hs,rfl⟩
   · obtain ⟨o,s,h1,h2,h3⟩:=I.sl j e h
     exact ⟨o,s,by rw [uM (Ne.symm ne)]; exact h1,h2,h3.map (fun _ _ q=>fw q) fun _ _ _ q=>q.bh (cb i)⟩
 · rw [uM (Ne.symm (hp p q))]; exact I.par p q
theorem kH:∀ (O:List (Option Addr)) (i:Nat) (a:Addr),a∉roots O→(roots O).Nodup→(roots (O.set i (some a))).Nodup
 | [],i,a,_,h=>by simpa using h
 | o :: O,0,a,n,h=>by
   cases o with
   | none=>simp only [roots,P0,lx,id] at n h ⊢; exact pe.mpr ⟨n,h⟩
   | some b =>
     simp only [roots,P0,lx,id] at n h ⊢
     exact pe.mpr ⟨fun z=>n (g9 _ z),(pe.mp h).2⟩
 | o :: O,i+1,a,n,h=>by
   have key:=kH O i a
   cases o with
   | none=>simp only [roots,Ku,lx,id] at n h ⊢; exact key n h
   | some b =>
     simp only [roots,Ku,lx,id] at n h ⊢
     rw [pe] at h ⊢
     refine ⟨fun z=>?_,key (fun z=>n (g9 _ z)) h.2⟩
     have z':some b∈O.set i (some a):=aH.mp z
     rcases K_ z' with q | q
     · exact h.1 (aH.mpr q)
     · exact n (by rw [Option.some.inj q]; exact eW)
theorem sE {a:Addr} (i:Nat):∀ b∈av Z (O.set i (some a)),b∈av (Z.ex a) O:=fun b h=>by
 rcases gD.mp h with h | h
 · rcases K_ (aH.mp h) with z | z
   · exact iU _ (aH.mpr z)
   · exact iR _ (by rw [Option.some.inj z]; exact eW)
 · exact iR _ (g9 _ h)
theorem aq.RW {a:Addr} (I:aq K (Z.ex a) tm O ρ σ H) {i:Nat} {t:T} (hp:∀ p∈Z.P,p.1≠i) (hv:cq K H (av (Z.ex a) O) a t) (h0:Z.H0 a=none) (hx:a∉Z.Ox):aq K Z tm (O.set i (some a)) (ρ.set i (some (t,true))) (σ.set i (some (.ref a))) H:=by
 have sub:=sE (Z:=Z) (O:=O) (a:=a) i
 have fw:∀ {t:T} {v:V},At K H (av (Z.ex a) O) t v→At K H (av Z (O.set i (some a))) t v:=fun q=>q.bh sub
 have na:a∉roots O:=fun z=>(I.own a z).2.1 eW
 refine ⟨by simp [I.lσ],by simp [I.lO],fun j e h=>?_,kH _ _ _ na I.nd,fun b h=>?_,fun p q=>?_,fun b h=>I.ox b (g9 _ h),I.keep,fun p q=>fw (I.oA p q)⟩
 · rcases get_set h with ⟨rfl,rfl,hl⟩ | ⟨ne,h⟩
   · exact ⟨some a,some (.ref a),by rw [CA (by rw [I.lO]; exact hl)],by rw [CA (by rw [I.lσ]; exact hl)],a,rfl,rfl,hv.bh sub⟩
   · obtain ⟨o,s,h1,h2,h3⟩:=I.sl j e h
     exact ⟨o,s,by rw [uM (Ne.symm ne)]; exact h1,by rw [uM (Ne.symm ne)]; exact h2,h3.map (fun _ _ q=>fw q) fun _ _ _ q=>q.bh sub⟩
 · rcases K_ (aH.mp h) with z | z
   · obtain ⟨h1,h2,h3⟩:=I.own b (aH.mpr z)
     exact ⟨h1,fun q=>h2 (g9 _ q),h3⟩
   · cases z
     exact ⟨.inr h0,hx,hv.mut⟩
 · rw [uM (Ne.symm (hp p q))]; exact I.par p q
theorem aq.sd (I:aq K Z tm O ρ σ H) {i:Nat} {t:T} (hp:∀ p∈Z.P,p.1≠i) (hi:ρ[i]?=some (some (t,true))):aq K Z tm (O.set i none) (ρ.set i (some (t,false))) σ H:=by
 have fw:∀ {t:T} {v:V},At K H (av Z O) t v→At K H (av Z (O.set i none)) t v:=fun q=>q.bh (cb i)
 obtain ⟨o,s,h1,h2,a,rfl,rfl,hr⟩:=I.sl i _ hi
 have ha:a∈roots O:=aH.mpr (jO h1)
 have na:a∉roots (O.set i none):=fun z=>by
  obtain ⟨j,hj⟩:=PX.mp (aH.mp z)
  rcases get_set hj with ⟨_,q,_⟩ | ⟨ne,q⟩
  · cases q
  · -- two places of one root
    have key:∀ (O:List (Option Addr)) (i j:Nat),i < j→O[i]?=some (some a)→O[j]?=some (some a)→(roots O).Nodup→False:=by
     intro O
     induction O with
     | nil=>intro i j _ h; simp at h
     | cons o O ih =>
       intro i j KP e1 e2 nd
       cases j with
       | zero=>omega
       | succ j =>
         have CJ:O[j]?=some (some a):=by simpa using e2
         cases i with
         | zero =>
           have:o=some a:=by simpa using e1
           subst this
           simp only [roots,lx,id] at nd
           exact (pe.mp nd).1 (aH.mpr (jO CJ))
         | succ i =>
           refine ih i j (by omega) (by simpa using e1) CJ ?_
           cases o with
           | none=>simpa [roots] using nd
           | some b=>simp only [roots,lx,id] at nd; exact (pe.mp nd).2
    rcases Nat.lt_or_gt_of_ne ne with l | l
    · exact key O j i l q h1 I.nd
    · exact key O i j l h1 q I.nd
 have Ws:a∉av Z (O.set i none):=fun z=>by
  rcases gD.mp z with z | z
  · exact na z
  · exact (I.own a ha).2.1 z
 refine ⟨by simp [I.lσ],by simp [I.lO],fun j e h=>?_,eY _ _ I.nd,fun a h=>I.own a (ck i a h),fun p q=>?_,I.ox,I.keep,fun p q=>fw (I.oA p q)⟩
 · rcases get_set h with ⟨rfl,rfl,hl⟩ | ⟨ne,h⟩
   · exact ⟨none,some (.ref a),by rw [CA (by rw [I.lO]; exact hl)],h2,rfl,.ref a,rfl,(hr.bh (cb j)).at Ws⟩
   · obtain ⟨o,s,h1,h2,h3⟩:=I.sl j e h
     exact ⟨o,s,by rw [uM (Ne.symm ne)]; exact h1,h2,h3.map (fun _ _ q=>fw q) fun _ _ _ q=>q.bh (cb i)⟩
 · rw [uM (Ne.symm (hp p q))]; exact I.par p q
theorem aq.wrote (I:aq K Z tm O ρ σ H) {i:Nat} {t t':T} {a:Addr} {u:HO} (hi:ρ[i]?=some (some (t,true))) (hO:O[i]?=some (some a)) (hr:cq K (upd H a u) (av Z O) a t'):aq K Z tm O (ρ.set i (some (t',true))) σ (upd H a u):=by
 have ha:a∈roots O:=aH.mpr (jO hO)
 have DG:a∈av Z O:=iU _ ha
 obtain ⟨hP,hx,u0,e0,m0⟩:=I.own a ha
 have inj:∀ j b,j≠i→O[j]?=some (some b)→b≠a:=by
  intro j b ne hj e
  subst e
  have key:∀ (O:List (Option Addr)) (i j:Nat),i < j→O[i]?=some (some b)→O[j]?=some (some b)→(roots O).Nodup→False:=by
   intro O
   induction O with
   | nil=>intro i j _ h; simp at h
   | cons o O ih =>
     intro i j KP e1 e2 nd
     cases j with
     | zero=>omega
     | succ j =>
       have CJ:O[j]?=some (some b):=by simpa using e2
       cases i with
       | zero =>
         have:o=some b:=by simpa using e1
         subst this
         simp only [roots,lx,id] at nd
         exact (pe.mp nd).1 (aH.mpr (jO CJ))
       | succ i =>
         refine ih i j (by omega) (by simpa using e1) CJ ?_
         cases o with
         | none=>simpa [roots] using nd
         | some c=>simp only [roots,lx,id] at nd; exact (pe.mp nd).2
  rcases Nat.lt_or_gt_of_ne ne with l | l
  · exact key O j i l hj hO I.nd
  · exact key O i j l hO hj I.nd
 refine ⟨by simp [I.lσ],by simp [I.lO],fun j e h=>?_,I.nd,fun b h=>?_,I.par,fun b h=>?_,fun b o e n=>?_,fun p q=>(I.oA p q).wrote DG e0 m0⟩
 · rcases get_set h with ⟨rfl,rfl,hl⟩ | ⟨ne,h⟩
   · obtain ⟨o,s,h1,h2,a',h4,h5,h6⟩:=I.sl j _ hi
     rw [hO] at h1
     cases h1
     cases h4
     exact ⟨_,s,hO,h2,a,rfl,h5,hr⟩
   · obtain ⟨o,s,h1,h2,h3⟩:=I.sl j e h
     refine ⟨o,s,h1,h2,h3.map (fun _ _ q=>q.wrote DG e0 m0) fun b t e q=>?_⟩
     subst e
     exact q.map (aP (inj j b ne h1)) fun _ _ z=>z.wrote DG e0 m0
 · obtain ⟨h1,h2,v,e,m⟩:=I.own b h
   by_cases hb:b=a
   · subst hb; exact ⟨h1,h2,hr.mut⟩
   · exact ⟨h1,h2,v,by rw [aP hb]; exact e,m⟩
 · by_cases hb:b=a
   · subst hb; exact absurd h hx
   · rw [aP hb]; exact I.ox b h
 · by_cases hb:b=a
   · subst hb
     rcases hP with q | q
     · exact absurd q n
     · rw [q] at e; cases e
   · rw [aP hb]; exact I.keep b o e n
theorem aq.fresh (I:aq K Z tm O ρ σ H) {a:Addr} (h:H a=none):a∉av Z O∧a∉Z.Ox∧Z.H0 a=none:=by
 refine ⟨fun z=>I.KO a z h,fun z=>I.ox a z h,?_⟩
 cases e:Z.H0 a with
 | none=>rfl
 | some o =>
   by_cases hp:a∈Z.P.map (·.2)
   · obtain ⟨p,Qj,rfl⟩:=iV.mp hp
     obtain ⟨_,_,u,e',_⟩:=I.own p.2 (aH.mpr (jO (I.par p Qj)))
     rw [h] at e'; cases e'
   · rw [I.keep a o e hp] at h; cases h
theorem cY {a:Addr}:∀ b∈av (Z.ex a) O,b∈av Z O∨b=a:=fun b h=>by
 rcases gD.mp h with h | h
 · exact .inl (iU _ h)
 · rcases cn.mp h with h | h
   · exact .inr h
   · exact .inl (iR _ h)
theorem fB {a:Addr}:∀ b∈av Z O,b∈av (Z.ex a) O:=fun b h=>by
 rcases gD.mp h with h | h
 · exact iU _ h
 · exact iR _ (g9 _ h)
theorem aq.new (I:aq K Z tm O ρ σ H) {a:Addr} {u:HO} (h:H a=none) (hu:sD u=true):aq K (Z.ex a) tm O ρ σ (upd H a u):=by
 have s:aK H (upd H a u):=aM h
 have J:=I.same s
 obtain ⟨n1,n2,n3⟩:=I.fresh h
 have mr:∀ b∈av (Z.ex a) O,b∈av Z O∨H b=none:=fun b hb=>(cY b hb).imp id fun e=>by rw [e]; exact h
 have fw:∀ {t:T} {v:V},At K H (av Z O) t v→At K (upd H a u) (av (Z.ex a) O) t v:=fun q=>(q.more mr).same s
 refine ⟨J.lσ,J.lO,fun i e hi=>?_,J.nd,fun b hb=>?_,J.par,fun b hb=>?_,J.keep,fun p hp=>fw (I.oA p hp)⟩
 · obtain ⟨o,w,h1,h2,h3⟩:=I.sl i e hi
   refine ⟨o,w,h1,h2,h3.map (fun _ _ q=>fw q) fun b t eo q=>?_⟩
   refine cq.same (q.map rfl fun _ _ z=>z.more mr) s
 · obtain ⟨q1,q2,q3⟩:=J.own b hb
   refine ⟨q1,fun z=>?_,q3⟩
   rcases cn.mp z with z | z
   · exact n1 (by rw [← z]; exact iU _ hb)
   · exact q2 z
 · rcases cn.mp hb with z | z
   · rw [z,aX]; simp
   · exact J.ox b z
theorem aq.RX {a:Addr} (I:aq K (Z.ex a) tm O ρ σ H):aq K Z tm O ρ σ H :=
 ⟨I.lσ,I.lO,fun i e h=>let ⟨o,w,h1,h2,h3⟩:=I.sl i e h; ⟨o,w,h1,h2,h3.map (fun _ _ q=>q.bh fB) fun _ _ _ q=>q.bh fB⟩,I.nd,
   fun b h=>let ⟨q1,q2,q3⟩:=I.own b h; ⟨q1,fun z=>q2 (g9 _ z),q3⟩,I.par,fun b h=>I.ox b (g9 _ h),I.keep,fun p hp=>(I.oA p hp).bh fB⟩
end
inductive Rt where
 | vw (t:T)
 | fr (t:T)
def Rt.t:Rt→T
 | .vw t=>t
 | .fr t=>t
def fU (K:PySem.W.Frag) (H:Hp) (A:List Addr) (t:T) (v:V):Prop:=At K H A t v∨∃ a,v = .ref a∧cq K H A a t
def gH (K:PySem.W.Frag) (Z:Zc) (tm:List (T×V)) (O:List (Option Addr)) (ρ:En) (σ:St) (H:Hp):Rt→V→Prop
 | .vw t,v=>aq K Z tm O ρ σ H∧At K H (av Z O) t v
 | .fr t,v=>∃ a,v = .ref a∧aq K (Z.ex a) tm O ρ σ H∧cq K H (av (Z.ex a) O) a t∧Z.H0 a=none∧a∉Z.Ox
abbrev FE:=En→(T→Prop)→Prop
abbrev FP:=En→(Rt→Prop)→Prop
abbrev FX:=En→(En→Rt→Prop)→Prop
abbrev FB:=En→(Bool→Prop)→Prop
abbrev FA:=En→(List T→Prop)→Prop
section
variable {K:PySem.W.Frag} {Z:Zc} {tm:List (T×V)} {O:List (Option Addr)} {ρ:En} {σ:St} {H H':Hp} {A:List Addr}
theorem fU.same {t:T} {v:V} (s:aK H H') (h:fU K H A t v):fU K H' A t v:=h.imp (fun q=>q.same s) fun ⟨a,e,q⟩=>⟨a,e,q.same s⟩
theorem fU.lst {ts:List T} {v:V} (h:fU K H A (.lst ts) v):∃ a vs,v = .ref a∧eB K H a vs∧au K H A ts vs:=by
 rcases h with h | ⟨a,rfl,vs,e,q⟩
 · simp only [At] at h
   obtain ⟨a,vs,rfl,l,q⟩:=h
   exact ⟨a,vs,rfl,l.sq,q⟩
 · exact ⟨a,vs,rfl,eB.of e,q⟩
theorem fU.tup {ts:List T} {v:V} (h:fU K H A (.tup ts) v):∃ a vs,v = .ref a∧dq K H a vs∧au K H A ts vs:=by
 rcases h with h | ⟨a,rfl,q⟩
 · simpa only [At] using h
 · exact q.elim
theorem fU.dk {ks:List Key} {ts:List T} {v:V} (h:fU K H A (.dk ks ts) v):∃ a vs,v = .ref a∧ks.length=vs.length∧H a=some (.dK (ks.zip vs))∧au K H A ts vs:=by
 rcases h with h | ⟨a,rfl,vs,l,e,q⟩
 · simp only [At] at h
   obtain ⟨a,vs,rfl,l,d,q⟩:=h
   exact ⟨a,vs,rfl,l,d.1,q⟩
 · exact ⟨a,vs,rfl,l,e,q⟩
theorem fU.dt {ks:List (List Key)} {ts:List T} {v:V} (h:fU K H A (.dt ks ts) v):∃ a vs,v = .ref a∧ks.length=vs.length∧H a=some (.dT (ks.zip vs))∧au K H A ts vs:=by
 rcases h with h | ⟨a,rfl,vs,l,e,q⟩
 · simp only [At] at h
   obtain ⟨a,vs,rfl,l,d,q⟩:=h
   exact ⟨a,vs,rfl,l,d.1,q⟩
 · exact ⟨a,vs,rfl,l,e,q⟩
theorem fU.df {o:Obj} {ks:List (List Key)} {ts:List T} {v:V} (h:fU K H A (.df o ks ts) v):∃ a vs,v = .ref a∧ks.length=vs.length∧H a=some (.sd o (.dT (ks.zip vs)))∧au K H A ts vs:=by
 rcases h with h | ⟨a,rfl,q⟩
 · simp only [At] at h
   obtain ⟨a,vs,rfl,l,d,q⟩:=h
   exact ⟨a,vs,rfl,l,d.1,q⟩
 · exact q.elim
theorem fU.dz {o:Obj} {ks:List Key} {ts:List T} {v:V} (h:fU K H A (.dz o ks ts) v):∃ a vs,v = .ref a∧ks.length=vs.length∧H a=some (.sd o (.dK (ks.zip vs)))∧au K H A ts vs:=by
 rcases h with h | ⟨a,rfl,q⟩
 · simp only [At] at h
   obtain ⟨a,vs,rfl,l,d,q⟩:=h
   exact ⟨a,vs,rfl,l,d.1,q⟩
 · exact q.elim
theorem fU.kt {k:List Key} {v:V} (h:fU K H A (.kt k) v):∃ a,v = .ref a∧H a=some (.tup (k.map kV)):=by
 rcases h with h | ⟨a,rfl,q⟩
 · simp only [At] at h
   obtain ⟨a,rfl,d⟩:=h
   exact ⟨a,rfl,d.1⟩
 · exact q.elim
theorem fU.ins {C:Addr} {ns:List Str} {ts:List T} {v:V} (h:fU K H A (.ins C ns ts) v):∃ a dx vs,v = .ref a∧ns.length=vs.length∧H a=some (.ins C dx (ns.zip vs))∧au K H A ts vs:=by
 rcases h with h | ⟨a,rfl,dx,vs,l,e,q⟩
 · simp only [At] at h
   obtain ⟨a,dx,vs,rfl,l,d,q⟩:=h
   exact ⟨a,dx,vs,rfl,l,d.1,q⟩
 · exact ⟨a,dx,vs,rfl,l,e,q⟩
theorem fU.int {i:Int} {v:V} (h:fU K H A (.int i) v):v = .int i:=h.elim (fun q=>by simpa only [At] using q) fun ⟨_,_,q⟩=>q.elim
theorem fU.str {i:Str} {v:V} (h:fU K H A (.str i) v):v = .str i:=h.elim (fun q=>by simpa only [At] using q) fun ⟨_,_,q⟩=>q.elim
theorem fU.bl {i:Bool} {v:V} (h:fU K H A (.bl i) v):v = .bl i:=h.elim (fun q=>by simpa only [At] using q) fun ⟨_,_,q⟩=>q.elim
theorem fU.bp {v:V} (h:fU K H A .bp v):v = .bp:=h.elim (fun q=>by simpa only [At] using q) fun ⟨_,_,q⟩=>q.elim
theorem fU.ob {a:Addr} {v:V} (h:fU K H A (.ob a) v):v = .ref a:=h.elim (fun q=>by simpa only [At] using q) fun ⟨_,_,q⟩=>q.elim
theorem bD {i:Int}:At K H A (.int i) (.int i):=by simp only [At]
theorem bE {i:Str}:At K H A (.str i) (.str i):=by simp only [At]
theorem dr {i:Bool}:At K H A (.bl i) (.bl i):=by simp only [At]
theorem iF:At K H A .bp .bp:=by simp only [At]
theorem bt {ts:List T} {a:Addr} {vs:List V} (h:dq K H a vs) (q:au K H A ts vs):At K H A (.tup ts) (.ref a):=by simp only [At]; exact ⟨a,vs,rfl,h,q⟩
theorem gH.env {r:Rt} {v:V} (h:gH K Z tm O ρ σ H r v):aq K Z tm O ρ σ H:=by
 cases r with
 | vw t=>exact h.1
 | fr t=>obtain ⟨a,_,I,_⟩:=h; exact I.RX
theorem gH.at {r:Rt} {v:V} (h:gH K Z tm O ρ σ H r v):At K H (av Z O) r.t v:=by
 cases r with
 | vw t=>exact h.2
 | fr t =>
   obtain ⟨a,rfl,I,q,_,hx⟩:=h
   refine (q.bh fB).at fun z=>?_
   rcases gD.mp z with z | z
   · exact (I.own a z).2.1 eW
   · exact hx z
theorem aq.yp (I:aq K Z tm O ρ σ H) {a:Addr} {ts:List T} {vs:List V} (h:H a=none) (q:au K H (av Z O) ts vs):gH K Z tm O ρ σ (upd H a (.lst vs)) (.fr (.lst ts)) (.ref a):=by
 obtain ⟨n1,n2,n3⟩:=I.fresh h
 exact ⟨a,rfl,I.new h rfl,⟨vs,aX,(q.more fun b hb=>(cY b hb).imp id fun e=>by rw [e]; exact h).same (aM h)⟩,n3,n2⟩
theorem aq.newD (I:aq K Z tm O ρ σ H) {a:Addr} {ks:List Key} {ts:List T} {vs:List V} (h:H a=none) (hl:ks.length=vs.length) (q:au K H (av Z O) ts vs):gH K Z tm O ρ σ (upd H a (.dK (ks.zip vs))) (.fr (.dk ks ts)) (.ref a):=by
 obtain ⟨n1,n2,n3⟩:=I.fresh h
 exact ⟨a,rfl,I.new h rfl,⟨vs,hl,aX,(q.more fun b hb=>(cY b hb).imp id fun e=>by rw [e]; exact h).same (aM h)⟩,n3,n2⟩
end
structure Bx (p:List (T×V)→Prop):Prop where
 h:∀ tm,p tm
section
variable (X:Cx) (Z:Zc)
def lR (tm:List (T×V)) (f:FE):TE:=fun σ H Q=>∃ ρ O q,aq X.K Z tm O ρ σ H∧f ρ q∧∀ t,q t→∀ v H',aK H H'→fU X.K H' (av Z O) t v→Q v H'
def lE (tm:List (T×V)) (f:FE):TE:=fun σ H Q=>∃ ρ O q,aq X.K Z tm O ρ σ H∧f ρ q∧∀ t,q t→∀ v H',aK H H'→At X.K H' (av Z O) t v→Q v H'
def lP (tm:List (T×V)) (f:FP):TE:=fun σ H Q=>∃ ρ O q,aq X.K Z tm O ρ σ H∧f ρ q∧∀ r,q r→∀ v H',aK H H'→gH X.K Z tm O ρ σ H' r v→Q v H'
def lX (tm:List (T×V)) (f:FX):TE:=fun σ H Q=>∃ ρ O q,aq X.K Z tm O ρ σ H∧f ρ q∧∀ ρ' r,q ρ' r→∀ O' v H',gH X.K Z tm O' ρ' σ H' r v→Q v H'
def lB (tm:List (T×V)) (f:FB):TT:=fun σ H Q=>∃ ρ O q,aq X.K Z tm O ρ σ H∧f ρ q∧∀ b,q b→∀ H',aK H H'→Q b H'
def lA (tm:List (T×V)) (f:FA):TA:=fun σ H Q=>∃ ρ O q,aq X.K Z tm O ρ σ H∧f ρ q∧∀ ts,q ts→∀ vs H',aK H H'→au X.K H' (av Z O) ts vs→Q vs H'
def Vc (tm:List (T×V)) (f:FA):TA:=fun σ H Q=>∃ ρ O q,aq X.K Z tm O ρ σ H∧f ρ q∧∀ ts,q ts→∀ vs H',aK H H'→Paired (fun v t=>fU X.K H' (av Z O) t v) vs ts→Q vs H'
def VR (e:Expr) (f:FE):Prop:=Bx fun tm=>PE X e (lR X Z tm f)
instance {e:Expr} {f:FE}:CoeFun (VR X Z e f) fun _=>∀ tm,PE X e (lR X Z tm f):=⟨fun h=>Bx.h h⟩
def VE (e:Expr) (f:FE):Prop:=Bx fun tm=>PE X e (lE X Z tm f)
instance {e:Expr} {f:FE}:CoeFun (VE X Z e f) fun _=>∀ tm,PE X e (lE X Z tm f):=⟨fun h=>Bx.h h⟩
def VP (e:Expr) (f:FP):Prop:=Bx fun tm=>PE X e (lP X Z tm f)
instance {e:Expr} {f:FP}:CoeFun (VP X Z e f) fun _=>∀ tm,PE X e (lP X Z tm f):=⟨fun h=>Bx.h h⟩
def VX (e:Expr) (f:FX):Prop:=Bx fun tm=>PE X e (lX X Z tm f)
instance {e:Expr} {f:FX}:CoeFun (VX X Z e f) fun _=>∀ tm,PE X e (lX X Z tm f):=⟨fun h=>Bx.h h⟩
def VC (e:Expr) (f:FB):Prop:=Bx fun tm=>PT X e (lB X Z tm f)
instance {e:Expr} {f:FB}:CoeFun (VC X Z e f) fun _=>∀ tm,PT X e (lB X Z tm f):=⟨fun h=>Bx.h h⟩
def VW (e:Expr) (f:FB):Prop:=Bx fun tm=>PW X e (lB X Z tm f)
instance {e:Expr} {f:FB}:CoeFun (VW X Z e f) fun _=>∀ tm,PW X e (lB X Z tm f):=⟨fun h=>Bx.h h⟩
def VA (es:List Expr) (f:FA):Prop:=Bx fun tm=>PA X es (lA X Z tm f)
instance {es:List Expr} {f:FA}:CoeFun (VA X Z es f) fun _=>∀ tm,PA X es (lA X Z tm f):=⟨fun h=>Bx.h h⟩
def FT (es:List Expr) (f:FA):Prop:=Bx fun tm=>PA X es (Vc X Z tm f)
instance {es:List Expr} {f:FA}:CoeFun (FT X Z es f) fun _=>∀ tm,PA X es (Vc X Z tm f):=⟨fun h=>Bx.h h⟩
end
theorem PE.weak {X:Cx} {e:Expr} {t t':TE} (h:PE X e t) (hw:∀ σ H Q,t' σ H Q→t σ H Q):PE X e t':=fun pins s σ H Q I q=>h pins s σ H Q I (hw _ _ _ q)
theorem PT.weak {X:Cx} {e:Expr} {t t':TT} (h:PT X e t) (hw:∀ σ H Q,t' σ H Q→t σ H Q):PT X e t':=fun pins s σ H Q I q=>h pins s σ H Q I (hw _ _ _ q)
theorem PW.weak {X:Cx} {e:Expr} {t t':TT} (h:PW X e t) (hw:∀ σ H Q,t' σ H Q→t σ H Q):PW X e t':=fun wh pins s σ H Q I q=>h wh pins s σ H Q I (hw _ _ _ q)
theorem PA.weak {X:Cx} {e:List Expr} {t t':TA} (h:PA X e t) (hw:∀ σ H Q,t' σ H Q→t σ H Q):PA X e t':=fun pos pins s σ H Q I q=>h pos pins s σ H Q I (hw _ _ _ q)
theorem PS.weak {X:Cx} {b:Stmt} {t t':TS} (h:PS X b t) (hw:∀ D σ H,t' D σ H→t D σ H):PS X b t':=fun pins s σ H D I q=>h pins s σ H D I (hw D σ H q)
theorem lz.sF {X:Cx} {b:List Stmt} {t t':TS} (h:lz X b t) (hw:∀ D σ H,t' D σ H→t D σ H):lz X b t':=fun pins s σ H D I q=>h pins s σ H D I (hw D σ H q)
section
variable {X:Cx} {Z:Zc} {e a b:Expr} {es:List Expr} {pos:Pos}
theorem VE.vr {f:FE} (h:VE X Z e f):VR X Z e f:=.mk fun tm=>PE.weak (h tm) fun σ H Q ⟨ρ,O,q,I,hf,k⟩=>⟨ρ,O,q,I,hf,fun t ht v H' s z=>k t ht v H' s (.inl z)⟩
def fT (f:FP):FE:=fun ρ Q=>f ρ fun r=>Q r.t
def fV (f:FE):FP:=fun ρ Q=>f ρ fun t=>Q (.vw t)
def fX (f:FP):FX:=fun ρ Q=>f ρ fun r=>Q ρ r
theorem VP.ve {f:FP} (h:VP X Z e f):VE X Z e (fT f):=.mk fun tm=>PE.weak (h tm) fun σ H Q ⟨ρ,O,q,I,hf,k⟩=>⟨ρ,O,fun r=>q r.t,I,hf,fun r hr v H' s z=>k r.t hr v H' s z.at⟩
theorem VP.vr {f:FP} (h:VP X Z e f):VR X Z e (fT f):=h.ve.vr
theorem VP.vx {f:FP} (h:VP X Z e f):VX X Z e (fX f):=.mk fun tm=>PE.weak (h tm) fun σ H Q ⟨ρ,O,q,I,hf,k⟩=>⟨ρ,O,fun r=>q ρ r,I,hf,fun r hr v H' s z=>k ρ r hr O v H' z⟩
theorem VE.vp {f:FE} (h:VE X Z e f):VP X Z e (fV f):=.mk fun tm=>PE.weak (h tm) fun σ H Q ⟨ρ,O,q,I,hf,k⟩=>⟨ρ,O,fun t=>q (.vw t),I,hf,fun t hr v H' s z=>k (.vw t) hr v H' s ⟨I.same s,z⟩⟩
def Mj (i:Nat):FE:=fun ρ Q=>match ρ[i]? with
 | some (some (t,false))=>Q t
 | _=>False
def FU (i:Nat):FE:=fun ρ Q=>match ρ[i]? with
 | some (some (t,_))=>Q t
 | _=>False
theorem ai (i:Nat) {x:Str} (hN:X.N[i]?=some x:=by rfl) (hv:uJ X.env.scope x:=by first | exact Or.inl rfl | exact Or.inr (Or.inl rfl) | exact Or.inr (Or.inr rfl)) (hd:(x == ("__debug__" : Str))=false:=by decide)
  (iq:(x == ("__classdict__" : Str))=false:=by decide):VE X Z (.Name x pos) (Mj i):=.mk fun tm=>PE.weak (eA hN hv hd iq) fun σ H Q ⟨ρ,O,q,I,hf,k⟩=>by
 unfold Mj at hf
 split at hf
 · rename_i t e
   obtain ⟨o,s,h1,h2,rfl,v,rfl,h3⟩:=I.sl i _ e
   exact ⟨v,h2,k t hf v H (aK.refl H) h3⟩
 · exact hf.elim
theorem aa (i:Nat) {x:Str} (hN:X.N[i]?=some x:=by rfl) (hv:uJ X.env.scope x:=by first | exact Or.inl rfl | exact Or.inr (Or.inl rfl) | exact Or.inr (Or.inr rfl)) (hd:(x == ("__debug__" : Str))=false:=by decide)
  (iq:(x == ("__classdict__" : Str))=false:=by decide):VR X Z (.Name x pos) (FU i):=.mk fun tm=>PE.weak (eA hN hv hd iq) fun σ H Q ⟨ρ,O,q,I,hf,k⟩=>by
 unfold FU at hf
 split at hf
 · rename_i t b e
   obtain ⟨o,s,h1,h2,h3⟩:=I.sl i _ e
   cases b with
   | false=>obtain ⟨rfl,v,rfl,h3⟩:=h3; exact ⟨v,h2,k t hf v H (aK.refl H) (.inl h3)⟩
   | true=>obtain ⟨a,rfl,rfl,h3⟩:=h3; exact ⟨_,h2,k t hf _ H (aK.refl H) (.inr ⟨a,rfl,h3⟩)⟩
 · exact hf.elim
def fC (t:T):FP:=fun _ Q=>Q (.vw t)
theorem AG {t:T} {v:V} (h:PE X e (tC v)) (ht:∀ H A,At X.K H A t v):VP X Z e (fC t):=.mk fun tm=>PE.weak h fun σ H Q ⟨ρ,O,q,I,hf,k⟩=>k _ hf v H (aK.refl H) ⟨I,ht _ _⟩
theorem ag {i j pos}:VP X Z (.Constant (.int i) j pos) (fC (.int i)):=AG GZ fun _ _=>bD
theorem fD {i j pos}:VP X Z (.Constant (.bool i) j pos) (fC (.bl i)):=AG Lq fun _ _=>dr
theorem ar {i j pos}:VP X Z (.Constant (.str i) j pos) (fC (.str i)):=AG G1 fun _ _=>bE
theorem vb {j pos}:VP X Z (.Constant .none j pos) (fC .bp):=AG G0 fun _ _=>iF
theorem dI {x:Str} {t:T} {v:V} {u:Value} (hg:Gl X x) (hm:X.mg x=some u) (r:RelV v u) (ht:∀ H A,At X.K H A t v) (hd:(x == ("__debug__" : Str))=false:=by decide):VP X Z (.Name x pos) (fC t):=AG (wX hg hm r hd) ht
def oB (K:PySem.W.Frag) (r:R2) (p:T→T→(Rt→Prop)→Prop):Prop :=
 ∀ (Z:Zc) (tm:List (T×V)) (O:List (Option Addr)) (ρ:En) (σ:St) (H:Hp) (x y:T) (v w:V) (q:Rt→Prop) (Q:VK),aq K Z tm O ρ σ H→fU K H (av Z O) x v→fU K H (av Z O) y w→p x y q →
  (∀ t,q t→∀ u H',aK H H'→gH K Z tm O ρ σ H' t u→Q u H')→r v w H Q
def f2 (fa fb:FE) (p:T→T→(Rt→Prop)→Prop):FP:=fun ρ Q=>fa ρ fun x=>fb ρ fun y=>p x y Q
theorem two {r:R2} {fa fb:FE} {p:T→T→(Rt→Prop)→Prop} (ho:oB X.K r p) {tm:List (T×V)}:∀ σ H Q,lP X Z tm (f2 fa fb p) σ H Q→LG r (lR X Z tm fa) (lR X Z tm fb) σ H Q:=fun σ H Q ⟨ρ,O,q,I,hf,k⟩ =>
 ⟨ρ,O,fun x=>fb ρ fun y=>p x y q,I,hf,fun x hx v H1 s1 a1=>⟨ρ,O,fun y=>p x y q,I.same s1,hx,fun y hy w H2 s2 a2 =>
   ho Z tm O ρ σ H2 x y v w q Q ((I.same s1).same s2) (a1.same s2) a2 hy fun t ht u H' s a=>k t ht u H' ((s1.trans s2).trans s) a⟩⟩
theorem jZ {op:Operator} {r:R2} {fa fb:FE} {p:T→T→(Rt→Prop)→Prop} (h:eC X (binaryOp op) r) (ho:oB X.K r p) (ha:VR X Z a fa) (hb:VR X Z b fb):VP X Z (.BinOp a op b pos) (f2 fa fb p) :=
 .mk fun tm=>PE.weak (LH h (ha tm) (hb tm)) (two ho)
theorem qq {op:CmpOp} {r:R2} {fa fb:FE} {p:T→T→(Rt→Prop)→Prop} (h:eC X (compareOp op) r) (ho:oB X.K r p) (ha:VR X Z a fa) (hb:VR X Z b fb) (hm:behindInMarks op b=false):VP X Z (.Compare a [op] [b] pos) (f2 fa fb p) :=
 .mk fun tm=>PE.weak (Dh h (ha tm) (hb tm) hm) (two ho)
def qr (f:FP):FB:=fun ρ Q=>f ρ fun r=>match r with
 | .vw (.bl c)=>Q c
 | _=>False
theorem vd {r:Rt} {Q:Bool→Prop} (h:match r with | .vw (.bl c)=>Q c | _=>False):∃ c,r = .vw (.bl c)∧Q c:=by
 split at h
 · exact ⟨_,rfl,h⟩
 · exact h.elim
theorem j0 {op:CmpOp} {r:R2} {fa fb:FE} {p:T→T→(Rt→Prop)→Prop} (h:eC X (compareOp op) r) (ho:oB X.K r p) (ha:VR X Z a fa) (hb:VR X Z b fb) (hm:behindInMarks op b=false):VC X Z (.Compare a [op] [b] pos) (qr (f2 fa fb p)) :=
 .mk fun tm=>PT.weak (Di h (ha tm) (hb tm) hm) fun σ H Q ⟨ρ,O,q,I,hf,k⟩=>two ho σ H _ ⟨ρ,O,_,I,hf,fun t ht u H' s a=>by
  obtain ⟨c,rfl,hc⟩:=vd ht
  have e:=a.2
  simp only [At] at e
  exact ⟨c,e,k c hc H' s⟩⟩
theorem bV {f:FP} (h:VP X Z e f) (he:∀ whole,isTrue e X.env whole=(do let v ← whole; standAt e.pos; holding [v] (truthy v)):=by intro _; rfl):VC X Z e (qr f) :=
 .mk fun tm=>PT.weak (G2 (h tm) he) fun σ H Q ⟨ρ,O,q,I,hf,k⟩=>⟨ρ,O,_,I,hf,fun t ht u H' s a=>by
  obtain ⟨c,rfl,hc⟩:=vd ht
  have e:=a.2
  simp only [At] at e
  exact ⟨c,e,k c hc H' s⟩⟩
def RY (f g:FB):FB:=fun ρ Q=>f ρ fun c=>if c=true then g ρ Q else Q false
def Wt (f g:FB):FB:=fun ρ Q=>f ρ fun c=>if c=true then Q true else g ρ Q
def RZ (f:FB):FB:=fun ρ Q=>f ρ fun c=>Q (!c)
theorem VW.vc {f:FB} (h:VW X Z e f):VC X Z e f:=.mk fun tm=>PW.pt (h tm)
theorem c9 {f:FB} (h:VC X Z a f):VW X Z (.BoolOp .And [a] pos) f:=.mk fun tm=>pw_and1 (h tm)
theorem eD {f:FB} (h:VC X Z a f):VW X Z (.BoolOp .Or [a] pos) f:=.mk fun tm=>pw_or1 (h tm)
theorem dY {rest:List Expr} {f g:FB} (h:VC X Z a f) (h':VW X Z (.BoolOp .And (b :: rest) pos) g):VW X Z (.BoolOp .And (a :: b :: rest) pos) (RY f g) :=
 .mk fun tm=>PW.weak (pw_and (h tm) (h' tm)) fun σ H Q ⟨ρ,O,q,I,hf,k⟩=>⟨ρ,O,_,I,hf,fun c hc H1 s1=>by
  cases c with
  | true=>rw [if_pos rfl] at hc ⊢; exact ⟨ρ,O,q,I.same s1,hc,fun b hb H' s=>k b hb H' (s1.trans s)⟩
  | false=>rw [if_neg iS] at hc ⊢; exact k false hc H1 s1⟩
theorem fE {rest:List Expr} {f g:FB} (h:VC X Z a f) (h':VW X Z (.BoolOp .Or (b :: rest) pos) g):VW X Z (.BoolOp .Or (a :: b :: rest) pos) (Wt f g) :=
 .mk fun tm=>PW.weak (pw_or (h tm) (h' tm)) fun σ H Q ⟨ρ,O,q,I,hf,k⟩=>⟨ρ,O,_,I,hf,fun c hc H1 s1=>by
  cases c with
  | true=>rw [if_pos rfl] at hc ⊢; exact k true hc H1 s1
  | false=>rw [if_neg iS] at hc ⊢; exact ⟨ρ,O,q,I.same s1,hc,fun b hb H' s=>k b hb H' (s1.trans s)⟩⟩
theorem cu {f:FB} (h:VC X Z a f):VC X Z (.UnaryOp .Not a pos) (RZ f) :=
 .mk fun tm=>PT.weak (G3 (h tm)) fun σ H Q ⟨ρ,O,q,I,hf,k⟩=>⟨ρ,O,_,I,hf,fun c hc H1 s1=>k _ hc H1 s1⟩
def Ml (f g:FP):FP:=fun ρ Q=>f ρ fun r=>match r with
 | .vw (.bl true)=>g ρ Q
 | .vw (.bl false)=>Q (.vw (.bl false))
 | _=>False
def R0 (f g:FP):FP:=fun ρ Q=>f ρ fun r=>match r with
 | .vw (.bl true)=>Q (.vw (.bl true))
 | .vw (.bl false)=>g ρ Q
 | _=>False
def Mm (f:FP):FP:=fun ρ Q=>f ρ fun r=>match r with
 | .vw (.bl c)=>Q (.vw (.bl (!c)))
 | _=>False
theorem iG {op} {f:FP} (h:VP X Z a f):VP X Z (.BoolOp op [a] pos) f:=.mk fun tm=>G4 (h tm)
theorem iH {rest:List Expr} {f g:FP} (h:VP X Z a f) (h':VP X Z (.BoolOp .And (b :: rest) pos) g):VP X Z (.BoolOp .And (a :: b :: rest) pos) (Ml f g) :=
 .mk fun tm=>PE.weak (G5 (h tm) (h' tm)) fun σ H Q ⟨ρ,O,q,I,hf,k⟩=>⟨ρ,O,_,I,hf,fun r hr v H1 s1 z=>by
  split at hr
  · have e:=z.2; simp only [At] at e
    exact ⟨true,e,by rw [if_pos rfl]; exact ⟨ρ,O,q,I.same s1,hr,fun b hb v H' s=>k b hb v H' (s1.trans s)⟩⟩
  · have e:=z.2; simp only [At] at e
    exact ⟨false,e,by rw [if_neg iS]; exact k _ hr _ H1 s1 ⟨I.same s1,dr⟩⟩
  · exact hr.elim⟩
theorem AH {rest:List Expr} {f g:FP} (h:VP X Z a f) (h':VP X Z (.BoolOp .Or (b :: rest) pos) g):VP X Z (.BoolOp .Or (a :: b :: rest) pos) (R0 f g) :=
 .mk fun tm=>PE.weak (Lw (h tm) (h' tm)) fun σ H Q ⟨ρ,O,q,I,hf,k⟩=>⟨ρ,O,_,I,hf,fun r hr v H1 s1 z=>by
  split at hr
  · have e:=z.2; simp only [At] at e
    exact ⟨true,e,by rw [if_pos rfl]; exact k _ hr _ H1 s1 ⟨I.same s1,dr⟩⟩
  · have e:=z.2; simp only [At] at e
    exact ⟨false,e,by rw [if_neg iS]; exact ⟨ρ,O,q,I.same s1,hr,fun b hb v H' s=>k b hb v H' (s1.trans s)⟩⟩
  · exact hr.elim⟩
theorem AI {f:FP} (h:VP X Z a f):VP X Z (.UnaryOp .Not a pos) (Mm f) :=
 .mk fun tm=>PE.weak (G6 (h tm)) fun σ H Q ⟨ρ,O,q,I,hf,k⟩=>⟨ρ,O,_,I,hf,fun r hr v H1 s1 z=>by
  split at hr
  · have e:=z.2; simp only [At] at e
    exact ⟨_,e,k _ hr _ H1 s1 ⟨I.same s1,dr⟩⟩
  · exact hr.elim⟩
def Wu (c:FB) (f g:FP):FP:=fun ρ Q=>c ρ fun b=>if b=true then f ρ Q else g ρ Q
theorem xk {c:Expr} {fc:FB} {f g:FP} (hc:VC X Z c fc) (h:VP X Z a f) (h':VP X Z b g):VP X Z (.IfExp c a b pos) (Wu fc f g) :=
 .mk fun tm=>PE.weak (Ad (hc tm) (h tm) (h' tm)) fun σ H Q ⟨ρ,O,q,I,hf,k⟩=>⟨ρ,O,_,I,hf,fun c hc H1 s1=>by
  cases c with
  | true=>rw [if_pos rfl] at hc ⊢; exact ⟨ρ,O,q,I.same s1,hc,fun b hb v H' s=>k b hb v H' (s1.trans s)⟩
  | false=>rw [if_neg iS] at hc ⊢; exact ⟨ρ,O,q,I.same s1,hc,fun b hb v H' s=>k b hb v H' (s1.trans s)⟩⟩
def AJ:FA:=fun _ Q=>Q []
def sG (f:FE) (g:FA):FA:=fun ρ Q=>f ρ fun t=>g ρ fun ts=>Q (t :: ts)
theorem ah:VA X Z [] AJ:=.mk fun tm=>PA.weak dW fun σ H Q ⟨ρ,O,q,I,hf,k⟩=>k _ hf [] H (aK.refl H) au.nil
theorem ab {f:FE} {g:FA} (h:VE X Z e f) (h':VA X Z es g) (hs:starEach (e :: es) X.env=(false,eval e X.env) :: starEach es X.env:=by rfl):VA X Z (e :: es) (sG f g) :=
 .mk fun tm=>PA.weak (bY (h tm) (h' tm) hs) fun σ H Q ⟨ρ,O,q,I,hf,k⟩=>⟨ρ,O,_,I,hf,fun t ht v H1 s1 a1=>⟨ρ,O,_,I.same s1,ht,fun ts fW vs H2 s2 a2=>k _ fW _ H2 (s1.trans s2) (au.cons (a1.same s2) a2)⟩⟩
theorem ao:FT X Z [] AJ:=.mk fun tm=>PA.weak dW fun σ H Q ⟨ρ,O,q,I,hf,k⟩=>k _ hf [] H (aK.refl H) .nil
theorem aj {f:FE} {g:FA} (h:VR X Z e f) (h':FT X Z es g) (hs:starEach (e :: es) X.env=(false,eval e X.env) :: starEach es X.env:=by rfl):FT X Z (e :: es) (sG f g) :=
 .mk fun tm=>PA.weak (bY (h tm) (h' tm) hs) fun σ H Q ⟨ρ,O,q,I,hf,k⟩=>⟨ρ,O,_,I,hf,fun t ht v H1 s1 a1=>⟨ρ,O,_,I.same s1,ht,fun ts fW vs H2 s2 a2=>k _ fW _ H2 (s1.trans s2) (.cons (a1.same s2) a2)⟩⟩
def R1 (g:FA):FP:=fun ρ Q=>g ρ fun ts=>ts.length≤sizeLine∧Q (.vw (.tup ts))
def R3 (g:FA):FP:=fun ρ Q=>g ρ fun ts=>ts.length≤sizeLine∧Q (.fr (.lst ts))
theorem bx {g:FA} {x1} (h:VA X Z es g):VP X Z (.Tuple es x1 pos) (R1 g) :=
 .mk fun tm=>PE.weak (Ho (h tm)) fun σ H Q ⟨ρ,O,q,I,hf,k⟩=>⟨ρ,O,_,I,hf,fun ts fW vs H1 s1 a1=>⟨by rw [a1.length]; exact fW.1,fun p hp=>k _ fW.2 _ _ (s1.trans (aM hp)) ⟨(I.same s1).same (aM hp),bt (dq.of aX) (a1.same (aM hp))⟩⟩⟩
theorem cK {g:FA} (h:VA X Z es g):VP X Z (.List es pos) (R3 g) :=
 .mk fun tm=>PE.weak (Hq (h tm)) fun σ H Q ⟨ρ,O,q,I,hf,k⟩=>⟨ρ,O,_,I,hf,fun ts fW vs H1 s1 a1=>⟨by rw [a1.length]; exact fW.1,fun p hp=>k _ fW.2 _ _ (s1.trans (aM hp)) ((I.same s1).yp hp a1)⟩⟩
end
mutual
def eqT:T→T→Bool
 | .bp,.bp=>true
 | .bl a,.bl b=>a == b
 | .bl a,.int b=>(if a then 1 else 0) == b
 | .int a,.bl b=>a == (if b then 1 else 0)
 | .int a,.int b=>a == b
 | .str a,.str b=>a == b
 | .tup a,.tup b=>eE a b
 | .lst a,.lst b=>eE a b
 | _,_=>false
def eE:List T→List T→Bool
 | [],[]=>true
 | a :: as,b :: bs=>eqT a b && eE as bs
 | _,_=>false
end
mutual
def plainT:T→Bool
 | .tup l=>b5 l
 | .lst l=>b5 l
 | .dk _ _=>false
 | .dt _ _=>false
 | .df _ _ _=>false
 | .dz _ _ _=>false
 | .kt _=>false
 | .ins _ _ _=>false
 | .pin _ _=>false
 | .ob _=>false
 | .ty _=>false
 | _=>true
def b5:List T→Bool
 | []=>true
 | t :: ts=>plainT t && b5 ts
end
mutual
def dep:T→Nat
 | .tup l=>md l+1
 | .lst l=>md l+1
 | _=>0
def md:List T→Nat
 | []=>0
 | t :: ts=>max (dep t) (md ts)
end
mutual
theorem i4:∀ (t:T),plainT t=true→eqT t t=true
 | .bp,_=>by simp [eqT]
 | .bl _,_=>by simp [eqT]
 | .int _,_=>by simp [eqT]
 | .str _,_=>by simp [eqT]
 | .tup l,h=>by simp only [plainT] at h; simp only [eqT]; exact j4 l h
 | .lst l,h=>by simp only [plainT] at h; simp only [eqT]; exact j4 l h
 | .dk _ _,h=>by simp only [plainT] at h; cases h
 | .dt _ _,h=>by simp only [plainT] at h; cases h
 | .df _ _ _,h=>by simp only [plainT] at h; cases h
 | .dz _ _ _,h=>by simp only [plainT] at h; cases h
 | .kt _,h=>by simp only [plainT] at h; cases h
 | .ins _ _ _,h=>by simp only [plainT] at h; cases h
 | .pin _ _,h=>by simp only [plainT] at h; cases h
 | .ob _,h=>by simp only [plainT] at h; cases h
 | .ty _,h=>by simp only [plainT] at h; cases h
theorem j4:∀ (t:List T),b5 t=true→eE t t=true
 | [],_=>by simp [eE]
 | t :: ts,h=>by
   simp only [b5,il] at h
   simp only [eE,il]
   exact ⟨i4 t h.1,j4 ts h.2⟩
end
theorem gI:∀ {a b:List T},eE a b=true→a.length=b.length
 | [],[],_=>rfl
 | a :: as,b :: bs,h=>by simp only [eE,il] at h; simp [gI h.2]
 | [],_ :: _,h=>by simp [eE] at h
 | _ :: _,[],h=>by simp [eE] at h
theorem gJ:∀ {a b:List T},a.length=b.length→eE a b=(List.range a.length).all fun j=>match a[j]?,b[j]? with
  | some x,some y=>eqT x y
  | _,_=>true
 | [],[],_=>by simp [eE]
 | a :: as,b :: bs,h=>by
   have ih:=gJ (a:=as) (b:=bs) (by simpa using h)
   simp only [eE]
   rw [ih,wO,QV,r8,KC]
   rfl
 | [],_ :: _,h=>by simp at h
 | _ :: _,[],h=>by simp at h
theorem me:∀ {a b:List T},eE a b=((List.range (min a.length b.length)).all (fun j=>match a[j]?,b[j]? with
  | some x,some y=>eqT x y
  | _,_=>true) && a.length == b.length)
 | a,b=>by
   by_cases h:a.length=b.length
   · rw [gJ h,h,Nat.min_self]; simp
   · have e:(a.length == b.length)=false:=by simpa using h
     rw [e,Bool.and_false]
     cases q:eE a b with
     | false=>rfl
     | true=>exact absurd (gI q) h
section
variable {X:Cx} {pins:List (Addr×Obj)} {σ:St} {H:Hp} {s:Shared} {O O':List Addr}
theorem sH (I:Inv X pins σ H s) {a:Addr} {xs ys:List V} (h:eB X.K H a xs) (h':dq X.K H a ys):False:=by
 obtain ⟨aJ,_,p,_⟩:=I.list h
 obtain ⟨c7,_,p2,_⟩:=I.tuple h'
 obtain ⟨o,n,e,c,_⟩:=p
 obtain ⟨o2,e2,c2,_⟩:=p2
 rw [e] at e2
 cases e2
 rw [c] at c2
 injection c2 with c2
 exact absurd c2 (by decide)
mutual
theorem At.inj (I:Inv X pins σ H s):∀ {t u:T} {v:V},plainT t=true→plainT u=true→At X.K H O t v→At X.K H O' u v→t=u
 | .bp,u,v,_,pu,h,h'=>by
   simp only [At] at h; subst h
   cases u <;> simp only [At] at h' <;> first | rfl | (simp only [plainT] at pu; cases pu; done) | (obtain ⟨_,_,e,_⟩:=h'; cases e) | (cases h'; done)
 | .bl b,u,v,_,pu,h,h'=>by
   simp only [At] at h; subst h
   cases u <;> simp only [At] at h' <;> first | (simp only [plainT] at pu; cases pu; done) | (obtain ⟨_,_,e,_⟩:=h'; cases e; done) | (cases h'; rfl) | (cases h'; done)
 | .int b,u,v,_,pu,h,h'=>by
   simp only [At] at h; subst h
   cases u <;> simp only [At] at h' <;> first | (simp only [plainT] at pu; cases pu; done) | (obtain ⟨_,_,e,_⟩:=h'; cases e; done) | (cases h'; rfl) | (cases h'; done)
 | .str b,u,v,_,pu,h,h'=>by
   simp only [At] at h; subst h
   cases u <;> simp only [At] at h' <;> first | (simp only [plainT] at pu; cases pu; done) | (obtain ⟨_,_,e,_⟩:=h'; cases e; done) | (cases h'; rfl) | (cases h'; done)
 | .dk _ _,_,_,p,_,_,_=>by simp only [plainT] at p; cases p
 | .dt _ _,_,_,p,_,_,_=>by simp only [plainT] at p; cases p
 | .df _ _ _,_,_,p,_,_,_=>by simp only [plainT] at p; cases p
 | .dz _ _ _,_,_,p,_,_,_=>by simp only [plainT] at p; cases p
 | .kt _,_,_,p,_,_,_=>by simp only [plainT] at p; cases p
 | .ins _ _ _,_,_,p,_,_,_=>by simp only [plainT] at p; cases p
 | .pin _ _,_,_,p,_,_,_=>by simp only [plainT] at p; cases p
 | .ob _,_,_,p,_,_,_=>by simp only [plainT] at p; cases p
 | .ty _,_,_,p,_,_,_=>by simp only [plainT] at p; cases p
 | .tup ts,u,v,p,pu,h,h'=>by
   simp only [At] at h
   obtain ⟨a,vs,rfl,h1,h2⟩:=h
   cases u with
   | tup us =>
     simp only [At] at h'
     obtain ⟨b,ws,e,g1,g2⟩:=h'
     cases e
     cases I.jR h1 g1
     simp only [plainT] at p pu
     rw [au.inj I p pu h2 g2]
   | lst us =>
     simp only [At] at h'
     obtain ⟨b,ws,e,g1,g2⟩:=h'
     cases e
     exact (sH I g1.sq h1).elim
   | dk _ _=>simp only [plainT] at pu; cases pu
   | dt _ _=>simp only [plainT] at pu; cases pu
   | df _ _ _=>simp only [plainT] at pu; cases pu
   | dz _ _ _=>simp only [plainT] at pu; cases pu
   | kt _=>simp only [plainT] at pu; cases pu
   | ins _ _ _=>simp only [plainT] at pu; cases pu
   | pin _ _=>simp only [plainT] at pu; cases pu
   | ob _=>simp only [plainT] at pu; cases pu
   | ty _=>simp only [plainT] at pu; cases pu
   | _=>simp only [At] at h'; cases h'
 | .lst ts,u,v,p,pu,h,h'=>by
   simp only [At] at h
   obtain ⟨a,vs,rfl,h1,h2⟩:=h
   cases u with
   | lst us =>
     simp only [At] at h'
     obtain ⟨b,ws,e,g1,g2⟩:=h'
     cases e
     cases I.iW h1.sq g1.sq
     simp only [plainT] at p pu
     rw [au.inj I p pu h2 g2]
   | tup us =>
     simp only [At] at h'
     obtain ⟨b,ws,e,g1,g2⟩:=h'
     cases e
     exact (sH I h1.sq g1).elim
   | dk _ _=>simp only [plainT] at pu; cases pu
   | dt _ _=>simp only [plainT] at pu; cases pu
   | df _ _ _=>simp only [plainT] at pu; cases pu
   | dz _ _ _=>simp only [plainT] at pu; cases pu
   | kt _=>simp only [plainT] at pu; cases pu
   | ins _ _ _=>simp only [plainT] at pu; cases pu
   | pin _ _=>simp only [plainT] at pu; cases pu
   | ob _=>simp only [plainT] at pu; cases pu
   | ty _=>simp only [plainT] at pu; cases pu
   | _=>simp only [At] at h'; cases h'
theorem au.inj (I:Inv X pins σ H s):∀ {ts us:List T} {vs:List V},b5 ts=true→b5 us=true→au X.K H O ts vs→au X.K H O' us vs→ts=us
 | [],[],_,_,_,_,_=>rfl
 | [],_ :: _,_,_,_,h,h'=>by simp only [au] at h h'; subst h; obtain ⟨_,_,e,_⟩:=h'; cases e
 | _ :: _,[],_,_,_,h,h'=>by simp only [au] at h h'; subst h'; obtain ⟨_,_,e,_⟩:=h; cases e
 | t :: ts,u :: us,_,p,pu,h,h'=>by
   simp only [au] at h h'
   simp only [b5,il] at p pu
   obtain ⟨v,r,rfl,h1,h2⟩:=h
   obtain ⟨v',r',e,g1,g2⟩:=h'
   cases e
   rw [At.inj I p.1 pu.1 h1 g1,au.inj I p.2 pu.2 h2 g2]
end
theorem gb:∀ {ts:List T} {j:Nat} {x:T},ts[j]?=some x→dep x≤md ts
 | [],_,_,h=>by simp at h
 | t :: ts,0,x,h=>by simp at h; subst h; simp only [md]; omega
 | t :: ts,j+1,x,h=>by have:=gb (ts:=ts) (j:=j) (x:=x) (by simpa using h); simp only [md]; omega
theorem bu:∀ {ts:List T} {j:Nat} {x:T},b5 ts=true→ts[j]?=some x→plainT x=true
 | [],_,_,_,h=>by simp at h
 | t :: ts,0,x,p,h=>by simp at h; subst h; simp only [b5,il] at p; exact p.1
 | t :: ts,j+1,x,p,h=>by simp only [b5,il] at p; exact bu (ts:=ts) (j:=j) p.2 (by simpa using h)
theorem in1_units (A:Around):A.in1.units=A.units+1:=by
 first | rfl | simp [Around.in1,Around.units]
theorem fF (I:Inv X pins σ H s) {ts us:List T} {vs ws:List V} {aJ c7:List Value} {A:Around} (h1:au X.K H O ts vs) (h2:au X.K H O' us ws) (r1:Vals vs aJ) (r2:Vals ws c7)
  (key:∀ (j:Nat) x y v w u u',ts[j]?=some x→us[j]?=some y→At X.K H O x v→At X.K H O' y w→RelV v u→RelV w u'→SeqAt.EqAt A s u u' (eqT x y)) :
  ∀ (j:Nat) (g1:j < aJ.toArray.size) (g2:j < c7.toArray.size),SeqAt.EqAt A s aJ.toArray[j] c7.toArray[j] (match ts[j]?,us[j]? with
   | some x,some y=>eqT x y
   | _,_=>true):=fun j g1 g2=>by
 have l1:=h1.length
 have l2:=h2.length
 have m1:=r1.length
 have m2:=r2.length
 simp only [fq] at g1 g2
 have e1:ts[j]?=some (ts[j]'(by omega)):=by simp
 have e2:us[j]?=some (us[j]'(by omega)):=by simp
 obtain ⟨v,a1,a2⟩:=h1.get e1
 obtain ⟨w,b1,b2⟩:=h2.get e2
 obtain ⟨u,c1,c2⟩:=r1.get a1
 obtain ⟨u',d1,d2⟩:=r2.get b1
 have f1:aJ.toArray[j]=u:=by rw [n9 (by omega)] at c1; simpa using c1
 have f2:c7.toArray[j]=u':=by rw [n9 (by omega)] at d1; simpa using d1
 rw [f1,f2,e1,e2]
 exact key j _ _ v w u u' e1 e2 a2 b2 c2 d2
theorem qt (I:Inv X pins σ H s):∀ (n:Nat) (t u:T) (v w:V) (a b:Value) (A:Around),dep t≤n→A.units+n < cLine→plainT t=true→plainT u=true→At X.K H O t v→At X.K H O' u w→RelV v a→RelV w b→SeqAt.EqAt A s a b (eqT t u):=by
 intro n
 induction n with
 | zero =>
   intro t u v w a b A hd hu pt pu ht hw rv rw'
   have cA:A.units < cLine:=by omega
   cases t with
   | tup l=>simp only [dep] at hd; omega
   | lst l=>simp only [dep] at hd; omega
   | bp =>
     simp only [At] at ht; subst ht; cases rv
     cases u with
     | tup l=>simp only [At] at hw; obtain ⟨p,ws,rfl,q,_⟩:=hw; cases rw'; obtain ⟨_,_,p1,_⟩:=I.tuple q; simp only [eqT]; exact SeqAt.EqAt.none_tuple p1 cA
     | lst l=>simp only [At] at hw; obtain ⟨p,ws,rfl,q,_⟩:=hw; cases rw'; obtain ⟨_,_,p1,_⟩:=I.list q.sq; simp only [eqT]; exact SeqAt.EqAt.none_list p1.isList cA
     | bp=>simp only [At] at hw; subst hw; cases rw'; simp only [eqT]; exact SeqAt.EqAt.same _
     | bl c=>simp only [At] at hw; subst hw; cases rw'; simp only [eqT]; exact SeqAt.EqAt.none_bool c
     | int c=>simp only [At] at hw; subst hw; obtain ⟨t,rfl⟩:=rw'; simp only [eqT]; exact SeqAt.EqAt.none_int c t
     | str c=>simp only [At] at hw; subst hw; obtain ⟨t,rfl⟩:=rw'; simp only [eqT]; exact SeqAt.EqAt.none_str c t
     | _=>simp only [plainT] at pu; cases pu
   | bl d =>
     simp only [At] at ht; subst ht; cases rv
     cases u with
     | tup l=>simp only [At] at hw; obtain ⟨p,ws,rfl,q,_⟩:=hw; cases rw'; obtain ⟨_,_,p1,_⟩:=I.tuple q; simp only [eqT]; exact SeqAt.EqAt.bool_tuple d p1 cA
     | lst l=>simp only [At] at hw; obtain ⟨p,ws,rfl,q,_⟩:=hw; cases rw'; obtain ⟨_,_,p1,_⟩:=I.list q.sq; simp only [eqT]; exact SeqAt.EqAt.bool_list d p1.isList cA
     | bp=>simp only [At] at hw; subst hw; cases rw'; simp only [eqT]; exact SeqAt.EqAt.bool_none d
     | bl c=>simp only [At] at hw; subst hw; cases rw'; simp only [eqT]; exact SeqAt.EqAt.bool_bool d c
     | int c=>simp only [At] at hw; subst hw; obtain ⟨t,rfl⟩:=rw'; simp only [eqT]; exact SeqAt.EqAt.bool_int d c t
     | str c=>simp only [At] at hw; subst hw; obtain ⟨t,rfl⟩:=rw'; simp only [eqT]; exact SeqAt.EqAt.bool_str d c t
     | _=>simp only [plainT] at pu; cases pu
   | int d =>
     simp only [At] at ht; subst ht; obtain ⟨t',rfl⟩:=rv
     cases u with
     | tup l=>simp only [At] at hw; obtain ⟨p,ws,rfl,q,_⟩:=hw; cases rw'; obtain ⟨_,_,p1,_⟩:=I.tuple q; simp only [eqT]; exact SeqAt.EqAt.int_tuple d t' p1 cA
     | lst l=>simp only [At] at hw; obtain ⟨p,ws,rfl,q,_⟩:=hw; cases rw'; obtain ⟨_,_,p1,_⟩:=I.list q.sq; simp only [eqT]; exact SeqAt.EqAt.int_list d t' p1.isList cA
     | bp=>simp only [At] at hw; subst hw; cases rw'; simp only [eqT]; exact SeqAt.EqAt.int_none d t'
     | bl c=>simp only [At] at hw; subst hw; cases rw'; simp only [eqT]; exact SeqAt.EqAt.int_bool d t' c
     | int c=>simp only [At] at hw; subst hw; obtain ⟨t,rfl⟩:=rw'; simp only [eqT]; exact SeqAt.EqAt.int_int d t' c t
     | str c=>simp only [At] at hw; subst hw; obtain ⟨t,rfl⟩:=rw'; simp only [eqT]; exact SeqAt.EqAt.int_str d t' c t
     | _=>simp only [plainT] at pu; cases pu
   | str d =>
     simp only [At] at ht; subst ht; obtain ⟨t',rfl⟩:=rv
     cases u with
     | tup l=>simp only [At] at hw; obtain ⟨p,ws,rfl,q,_⟩:=hw; cases rw'; obtain ⟨_,_,p1,_⟩:=I.tuple q; simp only [eqT]; exact SeqAt.EqAt.str_tuple d t' p1 cA
     | lst l=>simp only [At] at hw; obtain ⟨p,ws,rfl,q,_⟩:=hw; cases rw'; obtain ⟨_,_,p1,_⟩:=I.list q.sq; simp only [eqT]; exact SeqAt.EqAt.str_list d t' p1.isList cA
     | bp=>simp only [At] at hw; subst hw; cases rw'; simp only [eqT]; exact SeqAt.EqAt.str_none d t'
     | bl c=>simp only [At] at hw; subst hw; cases rw'; simp only [eqT]; exact SeqAt.EqAt.str_bool d t' c
     | int c=>simp only [At] at hw; subst hw; obtain ⟨t,rfl⟩:=rw'; simp only [eqT]; exact SeqAt.EqAt.str_int d t' c t
     | str c=>simp only [At] at hw; subst hw; obtain ⟨t,rfl⟩:=rw'; simp only [eqT]; exact SeqAt.EqAt.str_str d t' c t
     | _=>simp only [plainT] at pu; cases pu
   | _=>simp only [plainT] at pt; cases pt
 | succ n ih =>
   intro t u v w a b A hd hu pt pu ht hw rv rw'
   by_cases h0:dep t≤n
   · exact ih t u v w a b A h0 (by omega) pt pu ht hw rv rw'
   · have cA:A.units < cLine:=by omega
     have zT:A.in1.units+n < cLine:=by rw [in1_units]; omega
     cases t with
     | tup l =>
       simp only [plainT] at pt
       simp only [dep] at hd
       have R4:=ht
       simp only [At] at ht
       obtain ⟨p,vs,rfl,h1,h2⟩:=ht
       cases rv
       obtain ⟨aJ,r1,p1,_⟩:=I.tuple h1
       cases u with
       | tup l' =>
         have R5:=hw
         simp only [At] at hw
         obtain ⟨p',ws,rfl,g1,g2⟩:=hw
         cases rw'
         simp only [plainT] at pu
         by_cases e:p=p'
         · subst e
           have:=At.inj I (t:=.tup l) (u:=.tup l') (by simp only [plainT]; exact pt) (by simp only [plainT]; exact pu) R4 R5
           rw [← this,i4 _ (by simp only [plainT]; exact pt)]
           exact SeqAt.EqAt.same _
         · obtain ⟨c7,r2,p2,_⟩:=I.tuple g1
           refine SeqAt.EqAt.of_refs e ?_
           have:=SeqAt.RcAt.tuples (A:=A) p1 p2 cA (fF I h2 g2 r1 r2 fun j x y v w u u' e1 e2 a1 a2 b1 b2=>ih x y v w u u' A.in1 (kF (gb e1) (by omega)) zT (bu pt e1) (bu pu e2) a1 a2 b1 b2)
           simp only [eqT]
           rw [me]
           have e1:=r1.length
           have e2:=r2.length
           have e3:=h2.length
           have e4:=g2.length
           simp only [fq] at this
           rw [← e1,← e2,e3,e4] at this
           exact this
       | lst l'=>simp only [At] at hw; obtain ⟨p',ws,rfl,q,_⟩:=hw; cases rw'; obtain ⟨_,_,p2,_⟩:=I.list q.sq; simp only [eqT]; exact SeqAt.EqAt.tuple_list p1 p2.isList cA
       | bp=>simp only [At] at hw; subst hw; cases rw'; simp only [eqT]; exact SeqAt.EqAt.tuple_none p1 cA
       | bl c=>simp only [At] at hw; subst hw; cases rw'; simp only [eqT]; exact SeqAt.EqAt.tuple_bool c p1 cA
       | int c=>simp only [At] at hw; subst hw; obtain ⟨t,rfl⟩:=rw'; simp only [eqT]; exact SeqAt.EqAt.tuple_int c t p1 cA
       | str c=>simp only [At] at hw; subst hw; obtain ⟨t,rfl⟩:=rw'; simp only [eqT]; exact SeqAt.EqAt.tuple_str c t p1 cA
       | _=>simp only [plainT] at pu; cases pu
     | lst l =>
       simp only [plainT] at pt
       simp only [dep] at hd
       have R4:=ht
       simp only [At] at ht
       obtain ⟨p,vs,rfl,h1,h2⟩:=ht
       cases rv
       obtain ⟨aJ,r1,p1,_⟩:=I.list h1.sq
       cases u with
       | lst l' =>
         have R5:=hw
         simp only [At] at hw
         obtain ⟨p',ws,rfl,g1,g2⟩:=hw
         cases rw'
         simp only [plainT] at pu
         by_cases e:p=p'
         · subst e
           have:=At.inj I (t:=.lst l) (u:=.lst l') (by simp only [plainT]; exact pt) (by simp only [plainT]; exact pu) R4 R5
           rw [← this,i4 _ (by simp only [plainT]; exact pt)]
           exact SeqAt.EqAt.same _
         · obtain ⟨c7,r2,p2,_⟩:=I.list g1.sq
           refine SeqAt.EqAt.of_refs e ?_
           have e1:=r1.length
           have e2:=r2.length
           have e3:=h2.length
           have e4:=g2.length
           by_cases hl:l.length=l'.length
           · have:=SeqAt.RcAt.lists (A:=A) p1.isList p2.isList (by simp only [fq]; omega) cA (fF I h2 g2 r1 r2 fun j x y v w u u' e1 e2 a1 a2 b1 b2=>ih x y v w u u' A.in1 (kF (gb e1) (by omega)) zT (bu pt e1) (bu pu e2) a1 a2 b1 b2)
             simp only [eqT]
             rw [gJ hl]
             simp only [fq] at this
             rw [← e1,e3] at this
             exact this
           · simp only [eqT]
             have:eE l l'=false:=by
              cases q:eE l l' with
              | false=>rfl
              | true=>exact absurd (gI q) hl
             rw [this]
             exact SeqAt.RcAt.lists_lengths p1.isList p2.isList (by simp only [fq]; rw [bne_iff_ne]; omega) cA
       | tup l'=>simp only [At] at hw; obtain ⟨p',ws,rfl,q,_⟩:=hw; cases rw'; obtain ⟨_,_,p2,_⟩:=I.tuple q; simp only [eqT]; exact SeqAt.EqAt.list_tuple p1.isList p2 cA
       | bp=>simp only [At] at hw; subst hw; cases rw'; simp only [eqT]; exact SeqAt.EqAt.list_none p1.isList cA
       | bl c=>simp only [At] at hw; subst hw; cases rw'; simp only [eqT]; exact SeqAt.EqAt.list_bool c p1.isList cA
       | int c=>simp only [At] at hw; subst hw; obtain ⟨t,rfl⟩:=rw'; simp only [eqT]; exact SeqAt.EqAt.list_int c t p1.isList cA
       | str c=>simp only [At] at hw; subst hw; obtain ⟨t,rfl⟩:=rw'; simp only [eqT]; exact SeqAt.EqAt.list_str c t p1.isList cA
       | _=>simp only [plainT] at pu; cases pu
     | _=>exact absurd (ia n) h0
end
section
variable {X:Cx} {pins:List (Addr×Obj)} {σ:St} {H:Hp} {s:Shared} {O O':List Addr}
theorem HH (I:Inv X pins σ H s) (t u:T) (v w:V) (a b:Value) (A:Around) (hd:dep t≤100) (hu:A.units+101 < cLine) (pt:plainT t=true) (pu:plainT u=true) (ht:At X.K H O t v) (hw:At X.K H O' u w) (rv:RelV v a) (rw':RelV w b):SeqAt.RcAt A s a b (eqT t u):=by
 have cA:A.units < cLine:=by omega
 have zT:A.in1.units+100 < cLine:=by rw [in1_units]; omega
 cases t with
 | bp =>
   simp only [At] at ht; subst ht; cases rv
   cases u with
   | bp =>
     simp only [At] at hw; subst hw; cases rw'
     simp only [eqT]
     exact SeqAt.RcAt.none_none
   | bl c =>
     simp only [At] at hw; subst hw; cases rw'
     simp only [eqT]
     exact SeqAt.RcAt.none_bool c
   | int c =>
     simp only [At] at hw; subst hw; obtain ⟨t2,rfl⟩:=rw'
     simp only [eqT]
     exact SeqAt.RcAt.none_int c t2
   | str c =>
     simp only [At] at hw; subst hw; obtain ⟨t2,rfl⟩:=rw'
     simp only [eqT]
     exact SeqAt.RcAt.none_str c t2
   | tup l=>simp only [At] at hw; obtain ⟨p,ws,rfl,q,_⟩:=hw; cases rw'; obtain ⟨_,_,p1,_⟩:=I.tuple q; simp only [eqT]; exact SeqAt.RcAt.none_tuple p1 cA
   | lst l=>simp only [At] at hw; obtain ⟨p,ws,rfl,q,_⟩:=hw; cases rw'; obtain ⟨_,_,p1,_⟩:=I.list q.sq; simp only [eqT]; exact SeqAt.RcAt.none_list p1.isList cA
   | _=>simp only [plainT] at pu; cases pu
 | bl d =>
   simp only [At] at ht; subst ht; cases rv
   cases u with
   | bp =>
     simp only [At] at hw; subst hw; cases rw'
     simp only [eqT]
     exact SeqAt.RcAt.bool_none d
   | bl c =>
     simp only [At] at hw; subst hw; cases rw'
     simp only [eqT]
     exact SeqAt.RcAt.bool_bool d c
   | int c =>
     simp only [At] at hw; subst hw; obtain ⟨t2,rfl⟩:=rw'
     simp only [eqT]
     exact SeqAt.RcAt.bool_int d c t2
   | str c =>
     simp only [At] at hw; subst hw; obtain ⟨t2,rfl⟩:=rw'
     simp only [eqT]
     exact SeqAt.RcAt.bool_str d c t2
   | tup l=>simp only [At] at hw; obtain ⟨p,ws,rfl,q,_⟩:=hw; cases rw'; obtain ⟨_,_,p1,_⟩:=I.tuple q; simp only [eqT]; exact SeqAt.RcAt.bool_tuple d p1 cA
   | lst l=>simp only [At] at hw; obtain ⟨p,ws,rfl,q,_⟩:=hw; cases rw'; obtain ⟨_,_,p1,_⟩:=I.list q.sq; simp only [eqT]; exact SeqAt.RcAt.bool_list d p1.isList cA
   | _=>simp only [plainT] at pu; cases pu
 | int d =>
   simp only [At] at ht; subst ht; obtain ⟨t1,rfl⟩:=rv
   cases u with
   | bp =>
     simp only [At] at hw; subst hw; cases rw'
     simp only [eqT]
     exact SeqAt.RcAt.int_none d t1
   | bl c =>
     simp only [At] at hw; subst hw; cases rw'
     simp only [eqT]
     exact SeqAt.RcAt.int_bool d t1 c
   | int c =>
     simp only [At] at hw; subst hw; obtain ⟨t2,rfl⟩:=rw'
     simp only [eqT]
     exact SeqAt.RcAt.int_int d t1 c t2
   | str c =>
     simp only [At] at hw; subst hw; obtain ⟨t2,rfl⟩:=rw'
     simp only [eqT]
     exact SeqAt.RcAt.int_str d t1 c t2
   | tup l=>simp only [At] at hw; obtain ⟨p,ws,rfl,q,_⟩:=hw; cases rw'; obtain ⟨_,_,p1,_⟩:=I.tuple q; simp only [eqT]; exact SeqAt.RcAt.int_tuple d t1 p1 cA
   | lst l=>simp only [At] at hw; obtain ⟨p,ws,rfl,q,_⟩:=hw; cases rw'; obtain ⟨_,_,p1,_⟩:=I.list q.sq; simp only [eqT]; exact SeqAt.RcAt.int_list d t1 p1.isList cA
   | _=>simp only [plainT] at pu; cases pu
 | str d =>
   simp only [At] at ht; subst ht; obtain ⟨t1,rfl⟩:=rv
   cases u with
   | bp =>
     simp only [At] at hw; subst hw; cases rw'
     simp only [eqT]
     exact SeqAt.RcAt.str_none d t1
   | bl c =>
     simp only [At] at hw; subst hw; cases rw'
     simp only [eqT]
     exact SeqAt.RcAt.str_bool d t1 c
   | int c =>
     simp only [At] at hw; subst hw; obtain ⟨t2,rfl⟩:=rw'
     simp only [eqT]
     exact SeqAt.RcAt.str_int d t1 c t2
   | str c =>
     simp only [At] at hw; subst hw; obtain ⟨t2,rfl⟩:=rw'
     simp only [eqT]
     exact SeqAt.RcAt.str_str d t1 c t2
   | tup l=>simp only [At] at hw; obtain ⟨p,ws,rfl,q,_⟩:=hw; cases rw'; obtain ⟨_,_,p1,_⟩:=I.tuple q; simp only [eqT]; exact SeqAt.RcAt.str_tuple d t1 p1 cA
   | lst l=>simp only [At] at hw; obtain ⟨p,ws,rfl,q,_⟩:=hw; cases rw'; obtain ⟨_,_,p1,_⟩:=I.list q.sq; simp only [eqT]; exact SeqAt.RcAt.str_list d t1 p1.isList cA
   | _=>simp only [plainT] at pu; cases pu
 | tup l =>
   simp only [plainT] at pt
   simp only [dep] at hd
   simp only [At] at ht
   obtain ⟨p,vs,rfl,h1,h2⟩:=ht
   cases rv
   obtain ⟨aJ,r1,p1,_⟩:=I.tuple h1
   cases u with
   | bp =>
     simp only [At] at hw; subst hw; cases rw'
     simp only [eqT]
     exact SeqAt.RcAt.tuple_none p1 cA
   | bl c =>
     simp only [At] at hw; subst hw; cases rw'
     simp only [eqT]
     exact SeqAt.RcAt.tuple_bool c p1 cA
   | int c =>
     simp only [At] at hw; subst hw; obtain ⟨t2,rfl⟩:=rw'
     simp only [eqT]
     exact SeqAt.RcAt.tuple_int c t2 p1 cA
   | str c =>
     simp only [At] at hw; subst hw; obtain ⟨t2,rfl⟩:=rw'
     simp only [eqT]
     exact SeqAt.RcAt.tuple_str c t2 p1 cA
   | tup l' =>
     simp only [At] at hw
     obtain ⟨p',ws,rfl,g1,g2⟩:=hw
     cases rw'
     obtain ⟨c7,r2,p2,_⟩:=I.tuple g1
     simp only [eqT]
     simp only [plainT] at pu
     have e1:=r1.length
     have e2:=r2.length
     have e3:=h2.length
     have e4:=g2.length
     have:=SeqAt.RcAt.tuples (A:=A) p1 p2 cA (fF I h2 g2 r1 r2 fun j x y v w u u' e1 e2 a1 a2 b1 b2=>qt I 100 x y v w u u' A.in1 (kF (gb e1) (by omega)) zT (bu pt e1) (bu pu e2) a1 a2 b1 b2)
     simp only [fq] at this
     rw [← e1,← e2,e3,e4] at this
     rw [me]
     exact this
   | lst l' =>
     simp only [At] at hw
     obtain ⟨p',ws,rfl,g1,g2⟩:=hw
     cases rw'
     obtain ⟨c7,r2,p2,_⟩:=I.list g1.sq
     simp only [eqT]
     exact SeqAt.RcAt.tuple_list p1 p2.isList cA
   | _=>simp only [plainT] at pu; cases pu
 | lst l =>
   simp only [plainT] at pt
   simp only [dep] at hd
   simp only [At] at ht
   obtain ⟨p,vs,rfl,h1,h2⟩:=ht
   cases rv
   obtain ⟨aJ,r1,p1,_⟩:=I.list h1.sq
   cases u with
   | bp =>
     simp only [At] at hw; subst hw; cases rw'
     simp only [eqT]
     exact SeqAt.RcAt.list_none p1.isList cA
   | bl c =>
     simp only [At] at hw; subst hw; cases rw'
     simp only [eqT]
     exact SeqAt.RcAt.list_bool c p1.isList cA
   | int c =>
     simp only [At] at hw; subst hw; obtain ⟨t2,rfl⟩:=rw'
     simp only [eqT]
     exact SeqAt.RcAt.list_int c t2 p1.isList cA
   | str c =>
     simp only [At] at hw; subst hw; obtain ⟨t2,rfl⟩:=rw'
     simp only [eqT]
     exact SeqAt.RcAt.list_str c t2 p1.isList cA
   | tup l' =>
     simp only [At] at hw
     obtain ⟨p',ws,rfl,g1,g2⟩:=hw
     cases rw'
     obtain ⟨c7,r2,p2,_⟩:=I.tuple g1
     simp only [eqT]
     exact SeqAt.RcAt.list_tuple p1.isList p2 cA
   | lst l' =>
     simp only [At] at hw
     obtain ⟨p',ws,rfl,g1,g2⟩:=hw
     cases rw'
     obtain ⟨c7,r2,p2,_⟩:=I.list g1.sq
     simp only [eqT]
     simp only [plainT] at pu
     have e1:=r1.length
     have e2:=r2.length
     have e3:=h2.length
     have e4:=g2.length
     by_cases hl:l.length=l'.length
     · have:=SeqAt.RcAt.lists (A:=A) p1.isList p2.isList (by simp only [fq]; omega) cA (fF I h2 g2 r1 r2 fun j x y v w u u' e1 e2 a1 a2 b1 b2=>qt I 100 x y v w u u' A.in1 (kF (gb e1) (by omega)) zT (bu pt e1) (bu pu e2) a1 a2 b1 b2)
       simp only [fq] at this
       rw [← e1,e3] at this
       rw [gJ hl]
       exact this
     · have:eE l l'=false:=by
        cases q:eE l l' with
        | false=>rfl
        | true=>exact absurd (gI q) hl
       rw [this]
       exact SeqAt.RcAt.lists_lengths p1.isList p2.isList (by simp only [fq]; rw [bne_iff_ne]; omega) cA
   | _=>simp only [plainT] at pu; cases pu
 | _=>simp only [plainT] at pt; cases pt
theorem HI (I:Inv X pins σ H s) (t u:T) (v w:V) (a b:Value) (A:Around) (hd:dep t≤100) (hu:A.units+101 < cLine) (pt:plainT t=true) (pu:plainT u=true) (ht:At X.K H O t v) (hw:At X.K H O' u w) (rv:RelV v a) (rw':RelV w b):SeqAt.RcNeAt A s a b (!eqT t u):=by
 have cA:A.units < cLine:=by omega
 have zT:A.in1.units+100 < cLine:=by rw [in1_units]; omega
 cases t with
 | bp =>
   simp only [At] at ht; subst ht; cases rv
   cases u with
   | bp =>
     simp only [At] at hw; subst hw; cases rw'
     simp only [eqT]
     exact SeqAt.RcNeAt.none_none
   | bl c =>
     simp only [At] at hw; subst hw; cases rw'
     simp only [eqT]
     exact SeqAt.RcNeAt.none_bool c
   | int c =>
     simp only [At] at hw; subst hw; obtain ⟨t2,rfl⟩:=rw'
     simp only [eqT]
     exact SeqAt.RcNeAt.none_int c t2
   | str c =>
     simp only [At] at hw; subst hw; obtain ⟨t2,rfl⟩:=rw'
     simp only [eqT]
     exact SeqAt.RcNeAt.none_str c t2
   | tup l=>simp only [At] at hw; obtain ⟨p,ws,rfl,q,_⟩:=hw; cases rw'; obtain ⟨_,_,p1,_⟩:=I.tuple q; simp only [eqT]; exact SeqAt.RcNeAt.none_tuple p1 cA
   | lst l=>simp only [At] at hw; obtain ⟨p,ws,rfl,q,_⟩:=hw; cases rw'; obtain ⟨_,_,p1,_⟩:=I.list q.sq; simp only [eqT]; exact SeqAt.RcNeAt.none_list p1.isList cA
   | _=>simp only [plainT] at pu; cases pu
 | bl d =>
   simp only [At] at ht; subst ht; cases rv
   cases u with
   | bp =>
     simp only [At] at hw; subst hw; cases rw'
     simp only [eqT]
     exact SeqAt.RcNeAt.bool_none d
   | bl c =>
     simp only [At] at hw; subst hw; cases rw'
     simp only [eqT]
     exact SeqAt.RcNeAt.bool_bool d c
   | int c =>
     simp only [At] at hw; subst hw; obtain ⟨t2,rfl⟩:=rw'
     simp only [eqT]
     exact SeqAt.RcNeAt.bool_int d c t2
   | str c =>
     simp only [At] at hw; subst hw; obtain ⟨t2,rfl⟩:=rw'
     simp only [eqT]
     exact SeqAt.RcNeAt.bool_str d c t2
   | tup l=>simp only [At] at hw; obtain ⟨p,ws,rfl,q,_⟩:=hw; cases rw'; obtain ⟨_,_,p1,_⟩:=I.tuple q; simp only [eqT]; exact SeqAt.RcNeAt.bool_tuple d p1 cA
   | lst l=>simp only [At] at hw; obtain ⟨p,ws,rfl,q,_⟩:=hw; cases rw'; obtain ⟨_,_,p1,_⟩:=I.list q.sq; simp only [eqT]; exact SeqAt.RcNeAt.bool_list d p1.isList cA
   | _=>simp only [plainT] at pu; cases pu
 | int d =>
   simp only [At] at ht; subst ht; obtain ⟨t1,rfl⟩:=rv
   cases u with
   | bp =>
     simp only [At] at hw; subst hw; cases rw'
     simp only [eqT]
     exact SeqAt.RcNeAt.int_none d t1
   | bl c =>
     simp only [At] at hw; subst hw; cases rw'
     simp only [eqT]
     exact SeqAt.RcNeAt.int_bool d t1 c
   | int c =>
     simp only [At] at hw; subst hw; obtain ⟨t2,rfl⟩:=rw'
     simp only [eqT]
     exact SeqAt.RcNeAt.int_int d t1 c t2
   | str c =>
     simp only [At] at hw; subst hw; obtain ⟨t2,rfl⟩:=rw'
     simp only [eqT]
     exact SeqAt.RcNeAt.int_str d t1 c t2
   | tup l=>simp only [At] at hw; obtain ⟨p,ws,rfl,q,_⟩:=hw; cases rw'; obtain ⟨_,_,p1,_⟩:=I.tuple q; simp only [eqT]; exact SeqAt.RcNeAt.int_tuple d t1 p1 cA
   | lst l=>simp only [At] at hw; obtain ⟨p,ws,rfl,q,_⟩:=hw; cases rw'; obtain ⟨_,_,p1,_⟩:=I.list q.sq; simp only [eqT]; exact SeqAt.RcNeAt.int_list d t1 p1.isList cA
   | _=>simp only [plainT] at pu; cases pu
 | str d =>
   simp only [At] at ht; subst ht; obtain ⟨t1,rfl⟩:=rv
   cases u with
   | bp =>
     simp only [At] at hw; subst hw; cases rw'
     simp only [eqT]
     exact SeqAt.RcNeAt.str_none d t1
   | bl c =>
     simp only [At] at hw; subst hw; cases rw'
     simp only [eqT]
     exact SeqAt.RcNeAt.str_bool d t1 c
   | int c =>
     simp only [At] at hw; subst hw; obtain ⟨t2,rfl⟩:=rw'
     simp only [eqT]
     exact SeqAt.RcNeAt.str_int d t1 c t2
   | str c =>
     simp only [At] at hw; subst hw; obtain ⟨t2,rfl⟩:=rw'
     simp only [eqT]
     exact SeqAt.RcNeAt.str_str d t1 c t2
   | tup l=>simp only [At] at hw; obtain ⟨p,ws,rfl,q,_⟩:=hw; cases rw'; obtain ⟨_,_,p1,_⟩:=I.tuple q; simp only [eqT]; exact SeqAt.RcNeAt.str_tuple d t1 p1 cA
   | lst l=>simp only [At] at hw; obtain ⟨p,ws,rfl,q,_⟩:=hw; cases rw'; obtain ⟨_,_,p1,_⟩:=I.list q.sq; simp only [eqT]; exact SeqAt.RcNeAt.str_list d t1 p1.isList cA
   | _=>simp only [plainT] at pu; cases pu
 | tup l =>
   simp only [plainT] at pt
   simp only [dep] at hd
   simp only [At] at ht
   obtain ⟨p,vs,rfl,h1,h2⟩:=ht
   cases rv
   obtain ⟨aJ,r1,p1,_⟩:=I.tuple h1
   cases u with
   | bp =>
     simp only [At] at hw; subst hw; cases rw'
     simp only [eqT]
     exact SeqAt.RcNeAt.tuple_none p1 cA
   | bl c =>
     simp only [At] at hw; subst hw; cases rw'
     simp only [eqT]
     exact SeqAt.RcNeAt.tuple_bool c p1 cA
   | int c =>
     simp only [At] at hw; subst hw; obtain ⟨t2,rfl⟩:=rw'
     simp only [eqT]
     exact SeqAt.RcNeAt.tuple_int c t2 p1 cA
   | str c =>
     simp only [At] at hw; subst hw; obtain ⟨t2,rfl⟩:=rw'
     simp only [eqT]
     exact SeqAt.RcNeAt.tuple_str c t2 p1 cA
   | tup l' =>
     simp only [At] at hw
     obtain ⟨p',ws,rfl,g1,g2⟩:=hw
     cases rw'
     obtain ⟨c7,r2,p2,_⟩:=I.tuple g1
     simp only [eqT]
     simp only [plainT] at pu
     have e1:=r1.length
     have e2:=r2.length
     have e3:=h2.length
     have e4:=g2.length
     have:=SeqAt.RcNeAt.tuples (A:=A) p1 p2 cA (fF I h2 g2 r1 r2 fun j x y v w u u' e1 e2 a1 a2 b1 b2=>qt I 100 x y v w u u' A.in1 (kF (gb e1) (by omega)) zT (bu pt e1) (bu pu e2) a1 a2 b1 b2)
     simp only [fq] at this
     rw [← e1,← e2,e3,e4] at this
     rw [me]
     exact this
   | lst l' =>
     simp only [At] at hw
     obtain ⟨p',ws,rfl,g1,g2⟩:=hw
     cases rw'
     obtain ⟨c7,r2,p2,_⟩:=I.list g1.sq
     simp only [eqT]
     exact SeqAt.RcNeAt.tuple_list p1 p2.isList cA
   | _=>simp only [plainT] at pu; cases pu
 | lst l =>
   simp only [plainT] at pt
   simp only [dep] at hd
   simp only [At] at ht
   obtain ⟨p,vs,rfl,h1,h2⟩:=ht
   cases rv
   obtain ⟨aJ,r1,p1,_⟩:=I.list h1.sq
   cases u with
   | bp =>
     simp only [At] at hw; subst hw; cases rw'
     simp only [eqT]
     exact SeqAt.RcNeAt.list_none p1.isList cA
   | bl c =>
     simp only [At] at hw; subst hw; cases rw'
     simp only [eqT]
     exact SeqAt.RcNeAt.list_bool c p1.isList cA
   | int c =>
     simp only [At] at hw; subst hw; obtain ⟨t2,rfl⟩:=rw'
     simp only [eqT]
     exact SeqAt.RcNeAt.list_int c t2 p1.isList cA
   | str c =>
     simp only [At] at hw; subst hw; obtain ⟨t2,rfl⟩:=rw'
     simp only [eqT]
     exact SeqAt.RcNeAt.list_str c t2 p1.isList cA
   | tup l' =>
     simp only [At] at hw
     obtain ⟨p',ws,rfl,g1,g2⟩:=hw
     cases rw'
     obtain ⟨c7,r2,p2,_⟩:=I.tuple g1
     simp only [eqT]
     exact SeqAt.RcNeAt.list_tuple p1.isList p2 cA
   | lst l' =>
     simp only [At] at hw
     obtain ⟨p',ws,rfl,g1,g2⟩:=hw
     cases rw'
     obtain ⟨c7,r2,p2,_⟩:=I.list g1.sq
     simp only [eqT]
     simp only [plainT] at pu
     have e1:=r1.length
     have e2:=r2.length
     have e3:=h2.length
     have e4:=g2.length
     by_cases hl:l.length=l'.length
     · have:=SeqAt.RcNeAt.lists (A:=A) p1.isList p2.isList (by simp only [fq]; omega) cA (fF I h2 g2 r1 r2 fun j x y v w u u' e1 e2 a1 a2 b1 b2=>qt I 100 x y v w u u' A.in1 (kF (gb e1) (by omega)) zT (bu pt e1) (bu pu e2) a1 a2 b1 b2)
       simp only [fq] at this
       rw [← e1,e3] at this
       rw [gJ hl]
       exact this
     · have:eE l l'=false:=by
        cases q:eE l l' with
        | false=>rfl
        | true=>exact absurd (gI q) hl
       rw [this]
       exact SeqAt.RcNeAt.lists_lengths p1.isList p2.isList (by simp only [fq]; rw [bne_iff_ne]; omega) cA
   | _=>simp only [plainT] at pu; cases pu
 | _=>simp only [plainT] at pt; cases pt
theorem fU.bare {K:PySem.W.Frag} {H:Hp} {A:List Addr} {t:T} {v:V} (h:fU K H A t v):At K H [] t v:=by
 rcases h with h | ⟨a,rfl,h⟩
 · exact At.bh (O':=[]) (fun _ z=>absurd z dU) h
 · exact (cq.bh (A':=[]) h (fun _ z=>absurd z dU)).at dU
def DH (K:PySem.W.Frag) (neg:Bool):R2:=fun x y H Q=>∃ t u,At K H [] t x∧At K H [] u y∧plainT t=true∧plainT u=true∧dep t≤100∧Q (.bl (if neg then !eqT t u else eqT t u)) H
theorem AK (hu:X.A.units+101 < cLine):eC X (compareOp .Eq) (DH X.K false):=by
 intro pins s σ H x y v u Q I rx ry ⟨t,t',h1,h2,p1,p2,d,q⟩
 exact HH I t t' x y v u X.A d hu p1 p2 h1 h2 rx ry X.prog X.w X.xe _ ⟨.bl _,H,I,rfl,q⟩
theorem AL (hu:X.A.units+101 < cLine):eC X (compareOp .NotEq) (DH X.K true):=by
 intro pins s σ H x y v u Q I rx ry ⟨t,t',h1,h2,p1,p2,d,q⟩
 exact HI I t t' x y v u X.A d hu p1 p2 h1 h2 rx ry X.prog X.w X.xe _ ⟨.bl _,H,I,rfl,q⟩
end
def Mn (x y:T) (q:Rt→Prop):Prop:=match x,y with
 | .int i,.int j=>q (.vw (.bl (decide (i=j))))
 | .str i,.str j=>q (.vw (.bl (decide (i=j))))
 | .bl i,.bl j=>q (.vw (.bl (decide (i=j))))
 | x,y=>plainT x=true∧plainT y=true∧dep x≤100∧q (.vw (.bl (eqT x y)))
def Mo (x y:T) (q:Rt→Prop):Prop:=match x,y with
 | .int i,.int j=>q (.vw (.bl (!decide (i=j))))
 | .str i,.str j=>q (.vw (.bl (!decide (i=j))))
 | .bl i,.bl j=>q (.vw (.bl (!decide (i=j))))
 | x,y=>plainT x=true∧plainT y=true∧dep x≤100∧q (.vw (.bl (!eqT x y)))
theorem DI {x y:T} {q:Rt→Prop} (h:Mn x y q):plainT x=true∧plainT y=true∧dep x≤100∧q (.vw (.bl (eqT x y))):=by
 unfold Mn at h
 split at h
 · exact ⟨rfl,rfl,ia _,by simp only [eqT,PY]; exact h⟩
 · refine ⟨rfl,rfl,ia _,?_⟩
   have e:∀ i j:Str,(i == j)=decide (i=j):=fun i j=>by rw [Lg]; simp
   simp only [eqT,e]; exact h
 · exact ⟨rfl,rfl,ia _,by simp only [eqT,PY]; exact h⟩
 · exact h
theorem DJ {x y:T} {q:Rt→Prop} (h:Mo x y q):plainT x=true∧plainT y=true∧dep x≤100∧q (.vw (.bl (!eqT x y))):=by
 unfold Mo at h
 split at h
 · exact ⟨rfl,rfl,ia _,by simp only [eqT,PY]; exact h⟩
 · refine ⟨rfl,rfl,ia _,?_⟩
   have e:∀ i j:Str,(i == j)=decide (i=j):=fun i j=>by rw [Lg]; simp
   simp only [eqT,e]; exact h
 · exact ⟨rfl,rfl,ia _,by simp only [eqT,PY]; exact h⟩
 · exact h
theorem AN {K:PySem.W.Frag}:oB K (DH K false) Mn:=by
 intro Z tm O ρ σ H x y v w q Q I h1 h2 h k
 obtain ⟨p1,p2,d,h⟩:=DI h
 exact ⟨x,y,h1.bare,h2.bare,p1,p2,d,k _ h _ H (aK.refl H) ⟨I,by rw [if_neg iS]; exact dr⟩⟩
theorem AO {K:PySem.W.Frag}:oB K (DH K true) Mo:=by
 intro Z tm O ρ σ H x y v w q Q I h1 h2 h k
 obtain ⟨p1,p2,d,h⟩:=DJ h
 exact ⟨x,y,h1.bare,h2.bare,p1,p2,d,k _ h _ H (aK.refl H) ⟨I,by rw [if_pos rfl]; exact dr⟩⟩
def HJ (g:Int→Int→Bool) (x y:T) (q:Rt→Prop):Prop:=match x,y with
 | .int i,.int j=>q (.vw (.bl (g i j)))
 | _,_=>False
section
variable {K:PySem.W.Frag}
end
def HK (x y:T) (q:Rt→Prop):Prop:=match x,y with
 | .int i,.int j=>q (.vw (.int (i - j)))
 | _,_=>False
theorem DK {K:PySem.W.Frag}:oB K (qf fun i j=>.int (i - j)) HK:=by
 intro Z tm O ρ σ H x y v w q Q I h1 h2 h k
 unfold HK at h
 split at h
 · exact ⟨_,_,h1.int,h2.int,k _ h _ H (aK.refl H) ⟨I,bD⟩⟩
 · exact h.elim
def HL (x y:T) (q:Rt→Prop):Prop:=match x,y with
 | .int i,.int j=>Ak i j∧q (.vw (.int (i * j)))
 | _,_=>False
theorem DM {K:PySem.W.Frag}:oB K (rI Ak fun i j=>.int (i * j)) HL:=by
 intro Z tm O ρ σ H x y v w q Q I h1 h2 h k
 unfold HL at h
 split at h
 · exact ⟨_,_,h1.int,h2.int,h.1,k _ h.2 _ H (aK.refl H) ⟨I,bD⟩⟩
 · exact h.elim
def HM (x y:T) (q:Rt→Prop):Prop:=match x,y with
 | .int i,.int j=>(0 < j∧j < 1073741824)∧q (.vw (.int (i / j)))
 | _,_=>False
theorem DN {K:PySem.W.Frag}:oB K (rI LJ fun i j=>.int (i / j)) HM:=by
 intro Z tm O ρ σ H x y v w q Q I h1 h2 h k
 unfold HM at h
 split at h
 · exact ⟨_,_,h1.int,h2.int,h.1,k _ h.2 _ H (aK.refl H) ⟨I,bD⟩⟩
 · exact h.elim
def HN (x y:T) (q:Rt→Prop):Prop:=match x,y with
 | .int i,.int j=>0 < j∧q (.vw (.int (i % j)))
 | _,_=>False
theorem DO {K:PySem.W.Frag}:oB K (rI (fun _ j=>0 < j) fun i j=>.int (i % j)) HN:=by
 intro Z tm O ρ σ H x y v w q Q I h1 h2 h k
 unfold HN at h
 split at h
 · exact ⟨_,_,h1.int,h2.int,h.1,k _ h.2 _ H (aK.refl H) ⟨I,bD⟩⟩
 · exact h.elim
def HP (x y:T) (q:Rt→Prop):Prop:=match x,y with
 | .int i,.int j=>(0≤j∧j≤1000000∧i.natAbs < 2 ^ 64)∧q (.vw (.int (i ^ j.toNat)))
 | _,_=>False
theorem DP {K:PySem.W.Frag}:oB K (rI LK fun i j=>.int (i ^ j.toNat)) HP:=by
 intro Z tm O ρ σ H x y v w q Q I h1 h2 h k
 unfold HP at h
 split at h
 · exact ⟨_,_,h1.int,h2.int,h.1,k _ h.2 _ H (aK.refl H) ⟨I,bD⟩⟩
 · exact h.elim
def R6 (x y:T) (q:Rt→Prop):Prop:=match x,y with
 | .int i,.int j=>q (.vw (.bl (decide (i < j))))
 | _,_=>False
theorem HQ {K:PySem.W.Frag}:oB K (qf fun i j=>.bl (decide (i < j))) R6:=by
 intro Z tm O ρ σ H x y v w q Q I h1 h2 h k
 unfold R6 at h
 split at h
 · exact ⟨_,_,h1.int,h2.int,k _ h _ H (aK.refl H) ⟨I,dr⟩⟩
 · exact h.elim
def R7 (x y:T) (q:Rt→Prop):Prop:=match x,y with
 | .int i,.int j=>q (.vw (.bl (decide (j < i))))
 | _,_=>False
theorem HR {K:PySem.W.Frag}:oB K (qf fun i j=>.bl (decide (j < i))) R7:=by
 intro Z tm O ρ σ H x y v w q Q I h1 h2 h k
 unfold R7 at h
 split at h
 · exact ⟨_,_,h1.int,h2.int,k _ h _ H (aK.refl H) ⟨I,dr⟩⟩
 · exact h.elim
def FV (x y:T) (q:Rt→Prop):Prop:=match x,y with
 | .int i,.int j=>q (.vw (.int (i+j)))
 | _,_=>False
theorem AQ {K:PySem.W.Frag}:oB K (qf fun i j=>.int (i+j)) FV:=by
 intro Z tm O ρ σ H x y v w q Q I h1 h2 h k
 unfold FV at h
 split at h
 · exact ⟨_,_,h1.int,h2.int,k _ h _ H (aK.refl H) ⟨I,bD⟩⟩
 · exact h.elim
def FW (K:PySem.W.Frag):R2:=fun x y H Q=>∃ l b xs zs,x = .ref l∧y = .ref b∧eB K H l xs∧eB K H b zs∧xs.length+zs.length≤sizeLine∧∀ p,H p=none→Q (.ref p) (upd H p (.lst (xs ++ zs)))
def FY (K:PySem.W.Frag):R2:=fun x y H Q=>∃ a b xs ys,x = .ref a∧y = .ref b∧dq K H a xs∧dq K H b ys∧xs.length+ys.length≤sizeLine∧(xs=[]→Q (.ref b) H)∧(xs≠[]→ys=[]→Q (.ref a) H)∧(xs≠[]→ys≠[]→∀ p,H p=none→Q (.ref p) (upd H p (.tup (xs ++ ys))))
section
variable {X:Cx}
theorem DQ:eC X (binaryOp .Add) (FW X.K):=by
 intro pins s σ H x y v u Q I rx ry h
 obtain ⟨l,b,xs,zs,rfl,rfl,hH,hB,hz,q⟩:=h
 cases rx
 cases ry
 obtain ⟨aJ,r,p1,z1⟩:=I.list hH
 obtain ⟨c7,r2,p2,z2⟩:=I.list hB
 obtain ⟨⟨cls,dd,data,sl⟩,n,ho,hc,_,hd⟩:=p1
 obtain ⟨⟨LU,KI,data2,KJ⟩,n2,zQ,zR,_,hd2⟩:=p2
 simp only at hc hd zR hd2
 subst hc hd zR hd2
 have l1:=r.length
 have l2:=r2.length
 have e:aJ.toArray ++ c7.toArray=(aJ ++ c7).toArray:=by simp
 refine concat_meets ⟨_,ho,rfl⟩ ⟨_,zQ,rfl⟩ noFill_list_add seq_list_add PySem.F.slot_list_add PySem.F.entry_list_add (PySem.F.args_list_add_2 _ _) (list_addW l b aJ.toArray c7.toArray n n2 dd KI sl KJ (by simp only [fq]; omega)) ⟨ho,zQ,?_⟩
 rw [e]
 exact ⟨.ref _,_,I.RE (t':=s.toks) (r.append r2) (by rw [kS]; omega),rfl,q _ I.fresh⟩
theorem DR:eC X (binaryOp .Add) (FY X.K):=by
 intro pins s σ H x y v u Q I rx ry h
 obtain ⟨a,b,xs,ys,rfl,rfl,ha,hb,hz,q0,q1,q2⟩:=h
 cases rx
 cases ry
 obtain ⟨aJ,r1,p1,_⟩:=I.tuple ha
 obtain ⟨c7,r2,p2,_⟩:=I.tuple hb
 by_cases hx:xs=[]
 · obtain ⟨⟨cls,dd,data,sl⟩,ho,hc,n,hd⟩:=id p1
   obtain ⟨⟨LU,KI,data2,KJ⟩,zQ,zR,n2,hd2⟩:=id p2
   simp only at hc hd zR hd2
   subst hc hd zR hd2
   exact concat_meets ⟨_,ho,rfl⟩ ⟨_,zQ,rfl⟩ noFill_tuple_add seq_tuple_add QT QO (QM _ _)
    (tuple_addW0 a b aJ.toArray c7.toArray n n2 dd KI sl KJ (by simp [r1.lC.mpr hx])) ⟨ho,zQ,⟨.ref b,H,I,rfl,q0 hx⟩⟩
 · refine HT.Dk p1 p2 (fun z=>hx (r1.lC.mp z)) (fun z=>⟨.ref a,H,I,rfl,q1 hx (r2.lC.mp z)⟩) (fun z=>?_) (by rw [← r1.length,← r2.length]; exact hz)
   refine ⟨.ref s.heap.objs.size,_,I.laid (t':=s.toks) (o:=.tup (xs ++ ys)) (fun b ob q=>d_ _ q) (dH _) ?_,rfl,q2 hx (fun w=>z (r2.lC.mpr w)) _ (I.bA.fresh (dH _))⟩
   exact ⟨by rw [kS]; exact hz,_,r1.append r2,IsTup.new _ _⟩
end
def FZ (K:PySem.W.Frag):R2:=fun x y H Q=>qf (fun i j=>.int (i+j)) x y H Q∨(fun x y H Q=>∃ i j,x = .str i∧y = .str j∧i.length+j.length≤sizeLine∧Q (.str (i ++ j)) H) x y H Q∨FW K x y H Q∨FY K x y H Q
theorem DS {X:Cx}:eC X (binaryOp .Add) (FZ X.K):=eC.or Hh (eC.or uZ (eC.or DQ DR))
def HS (x y:T) (q:Rt→Prop):Prop:=match x,y with
 | .int i,.int j=>q (.vw (.int (i+j)))
 | .str i,.str j=>i.length+j.length≤sizeLine∧q (.vw (.str (i ++ j)))
 | .lst a,.lst b=>a.length+b.length≤sizeLine∧q (.fr (.lst (a ++ b)))
 | .tup a,.tup b=>a.length+b.length≤sizeLine∧q (.vw (.tup (a ++ b)))
 | _,_=>False
theorem DT {K:PySem.W.Frag}:oB K (FZ K) HS:=by
 intro Z tm O ρ σ H x y v w q Q I h1 h2 h k
 unfold HS at h
 split at h
 · exact .inl ⟨_,_,h1.int,h2.int,k _ h _ H (aK.refl H) ⟨I,bD⟩⟩
 · exact .inr (.inl ⟨_,_,h1.str,h2.str,h.1,k _ h.2 _ H (aK.refl H) ⟨I,bE⟩⟩)
 · obtain ⟨a,vs,rfl,s1,a1⟩:=h1.lst
   obtain ⟨b,ws,rfl,s2,a2⟩:=h2.lst
   exact .inr (.inr (.inl ⟨a,b,vs,ws,rfl,rfl,s1,s2,by rw [a1.length,a2.length]; exact h.1,fun p hp=>k _ h.2 _ _ (aM hp) (I.yp hp (a1.append a2))⟩))
 · obtain ⟨a,vs,rfl,s1,a1⟩:=h1.tup
   obtain ⟨b,ws,rfl,s2,a2⟩:=h2.tup
   refine .inr (.inr (.inr ⟨a,b,vs,ws,rfl,rfl,s1,s2,by rw [a1.length,a2.length]; exact h.1,fun e=>?_,fun _ e=>?_,fun _ _ p hp=>?_⟩))
   · subst e
     have e:=a1.length
     rename_i xs ys
     have e':xs=[]:=PN.mp e.symm
     subst e'
     exact k _ h.2 _ H (aK.refl H) ⟨I,bt s2 a2⟩
   · subst e
     have e:=a2.length
     rename_i xs ys _
     have e':ys=[]:=PN.mp e.symm
     subst e'
     exact k _ h.2 _ H (aK.refl H) ⟨I,by rw [CY]; exact bt s1 a1⟩
   · exact k _ h.2 _ _ (aM hp) ⟨I.same (aM hp),bt (dq.of aX) ((a1.append a2).same (aM hp))⟩
 · exact h.elim
section
variable {X:Cx} {Z:Zc} {e a b:Expr} {es:List Expr} {pos:Pos} {fa fb:FE}
theorem bN (ha:VR X Z a fa) (hb:VR X Z b fb):VP X Z (.BinOp a .Add b pos) (f2 fa fb HS):=jZ DS DT ha hb
theorem mf (ha:VR X Z a fa) (hb:VR X Z b fb):VP X Z (.BinOp a .Sub b pos) (f2 fa fb HK):=jZ Hi DK ha hb
theorem e7 (ha:VR X Z a fa) (hb:VR X Z b fb):VP X Z (.BinOp a .Mult b pos) (f2 fa fb HL):=jZ Hj DM ha hb
theorem bc (ha:VR X Z a fa) (hb:VR X Z b fb):VP X Z (.BinOp a .FloorDiv b pos) (f2 fa fb HM):=jZ De DN ha hb
theorem aZ (ha:VR X Z a fa) (hb:VR X Z b fb):VP X Z (.BinOp a .Mod b pos) (f2 fa fb HN):=jZ Hk DO ha hb
theorem j5 (ha:VR X Z a fa) (hb:VR X Z b fb):VP X Z (.BinOp a .Pow b pos) (f2 fa fb HP):=jZ Hl DP ha hb
def R8 (f:FE):FP:=fun ρ Q=>f ρ fun x=>match x with
 | .int i=>Q (.vw (.int (-i)))
 | _=>False
theorem iI (ha:VR X Z a fa):VP X Z (.UnaryOp .USub a pos) (R8 fa):=.mk fun tm=>PE.weak (LI Hm (ha tm)) fun σ H Q ⟨ρ,O,q,I,hf,k⟩=>⟨ρ,O,_,I,hf,fun t ht v H1 s1 a1=>by
 split at ht
 · exact ⟨_,a1.int,k _ ht _ H1 s1 ⟨I.same s1,bD⟩⟩
 · exact ht.elim⟩
theorem i5 (hu:X.A.units+101 < cLine) (ha:VR X Z a fa) (hb:VR X Z b fb):VP X Z (.Compare a [.Eq] [b] pos) (f2 fa fb Mn):=qq (AK hu) AN ha hb (iC _)
theorem F0 (hu:X.A.units+101 < cLine) (ha:VR X Z a fa) (hb:VR X Z b fb):VP X Z (.Compare a [.NotEq] [b] pos) (f2 fa fb Mo):=qq (AL hu) AO ha hb (iC _)
theorem bQ (hu:X.A.units+101 < cLine) (ha:VR X Z a fa) (hb:VR X Z b fb):VC X Z (.Compare a [.Eq] [b] pos) (qr (f2 fa fb Mn)):=j0 (AK hu) AN ha hb (iC _)
theorem gK (hu:X.A.units+101 < cLine) (ha:VR X Z a fa) (hb:VR X Z b fb):VC X Z (.Compare a [.NotEq] [b] pos) (qr (f2 fa fb Mo)):=j0 (AL hu) AO ha hb (iC _)
theorem ir (ha:VR X Z a fa) (hb:VR X Z b fb):VC X Z (.Compare a [.Lt] [b] pos) (qr (f2 fa fb R6)):=j0 FN HQ ha hb (iC _)
theorem sI (ha:VR X Z a fa) (hb:VR X Z b fb):VC X Z (.Compare a [.Gt] [b] pos) (qr (f2 fa fb R7)):=j0 LL HR ha hb (iC _)
def f3 (fa fb fc:FE) (p p':T→T→(Rt→Prop)→Prop):FP:=fun ρ Q=>fa ρ fun x=>fb ρ fun y=>p x y fun r=>match r with
 | .vw (.bl true)=>fc ρ fun z=>p' y z Q
 | .vw (.bl false)=>Q (.vw (.bl false))
 | _=>False
end
theorem AR {K:PySem.W.Frag} {H:Hp} {A:List Addr} {ts:List T} {vs:List V} {i:Int} {t:T} (h:au K H A ts vs) (e:jW ts i=some t):∃ v,jW vs i=some v∧At K H A t v:=by
 unfold jW at e ⊢
 rw [h.length]
 cases q:w_ ts.length i with
 | none=>rw [q] at e; cases e
 | some j =>
   rw [q] at e
   obtain ⟨v,h1,h2⟩:=h.get (i:=j) e
   exact ⟨v,h1,h2⟩
def R9 (x y:T) (q:Rt→Prop):Prop:=match x,y with
 | .lst ts,.int i=>∃ t,jW ts i=some t∧q (.vw t)
 | .tup ts,.int i=>∃ t,jW ts i=some t∧q (.vw t)
 | .str z,.int i=>z.length≤sizeLine∧∃ c,jW z.cps.toList i=some c∧q (.vw (.str ⟨#[c]⟩))
 | _,_=>False
theorem HU {K:PySem.W.Frag}:oB K (U5 K) R9:=by
 intro Z tm O ρ σ H x y v w q Q I h1 h2 h k
 unfold R9 at h
 split at h
 · obtain ⟨t,e,h⟩:=h
   obtain ⟨a,vs,rfl,s1,a1⟩:=h1.lst
   obtain ⟨u,e',a2⟩:=AR a1 e
   exact .inl ⟨a,vs,_,u,rfl,h2.int,s1,e',k _ h _ H (aK.refl H) ⟨I,a2⟩⟩
 · obtain ⟨t,e,h⟩:=h
   obtain ⟨a,vs,rfl,s1,a1⟩:=h1.tup
   obtain ⟨u,e',a2⟩:=AR a1 e
   exact .inr (.inl ⟨a,vs,_,u,rfl,h2.int,s1,e',k _ h _ H (aK.refl H) ⟨I,a2⟩⟩)
 · obtain ⟨hz,c,e,h⟩:=h
   exact .inr (.inr ⟨_,_,c,h1.str,h2.int,hz,e,k _ h _ H (aK.refl H) ⟨I,bE⟩⟩)
 · exact h.elim
section
variable {X:Cx} {Z:Zc} {e a b:Expr} {es:List Expr} {pos:Pos} {fa fb:FE}
theorem bo (ha:VR X Z a fa) (hb:VR X Z b fb) (hs:xb b:=by exact fun _ _=>rfl):VP X Z (.Subscript a b pos) (f2 fa fb R9) :=
 .mk fun tm=>PE.weak (LY Hw (ha tm) (hb tm) hs) (two HU)
end
abbrev FO:=En→(Option Int→Prop)→Prop
def lO (X:Cx) (Z:Zc) (tm:List (T×V)) (f:FO):TO:=fun σ H Q=>∃ ρ O q,aq X.K Z tm O ρ σ H∧f ρ q∧∀ o,q o→∀ H',aK H H'→Q o H'
def VO (X:Cx) (Z:Zc) (e:Option Expr) (f:FO):Prop:=Bx fun tm=>PO X e (lO X Z tm f)
instance {X:Cx} {Z:Zc} {e:Option Expr} {f:FO}:CoeFun (VO X Z e f) fun _=>∀ tm,PO X e (lO X Z tm f):=⟨fun h=>Bx.h h⟩
theorem PO.weak {X:Cx} {e:Option Expr} {t t':TO} (h:PO X e t) (hw:∀ σ H Q,t' σ H Q→t σ H Q):PO X e t':=fun pins s σ H Q I q=>h pins s σ H Q I (hw _ _ _ q)
def Wv:FO:=fun _ Q=>Q none
def Ww (f:FE):FO:=fun ρ Q=>f ρ fun t=>match t with
 | .int i=>Q (some i)
 | _=>False
def gc {α:Type} (xs:List α) (lo hi:Option Int):List α:=(xs.drop (HT.cX xs.length 0 lo)).take (HT.cX xs.length xs.length hi - HT.cX xs.length 0 lo)
theorem au.cut {K:PySem.W.Frag} {H:Hp} {A:List Addr} {ts:List T} {vs:List V} (h:au K H A ts vs) (lo hi:Option Int):au K H A (gc ts lo hi) (sg vs lo hi):=by
 unfold gc sg
 rw [h.length]
 exact (h.drop _).take _
def R_ (K:PySem.W.Frag):V→Option Int→Option Int→Hp→VK→Prop:=fun x lo hi H Q=>L4 K x lo hi H Q∨LX K x lo hi H Q∨Mh x lo hi H Q
theorem R' {X:Cx}:Ar X (R_ X.K):=Ar.or Dr (Ar.or Ht HG)
def Vd (x:T) (lo hi:Option Int) (q:Rt→Prop):Prop:=match x with
 | .lst ts=>q (.fr (.lst (gc ts lo hi)))
 | .tup ts=>¬ (HT.cX ts.length 0 lo=0∧HT.cX ts.length ts.length hi=ts.length)∧q (.vw (.tup (gc ts lo hi)))
 | .str z=>z.length≤sizeLine∧q (.vw (.str (Txt.slice z lo hi)))
 | _=>False
def Wx (fa:FE) (fl fh:FO):FP:=fun ρ Q=>fa ρ fun x=>fl ρ fun lo=>fh ρ fun hi=>Vd x lo hi Q
section
variable {X:Cx} {Z:Zc} {e a b:Expr} {lo hi:Option Expr} {pos p2:Pos} {fa:FE} {fl fh:FO}
theorem eZ:VO X Z none Wv:=.mk fun tm=>PO.weak Dm fun σ H Q ⟨ρ,O,q,I,hf,k⟩=>k _ hf H (aK.refl H)
theorem dJ (h:VR X Z e fa):VO X Z (some e) (Ww fa):=.mk fun tm=>PO.weak (Dn (h tm)) fun σ H Q ⟨ρ,O,q,I,hf,k⟩=>⟨ρ,O,_,I,hf,fun t ht v H' s z=>by
 split at ht
 · exact ⟨_,z.int,k _ ht H' s⟩
 · exact ht.elim⟩
theorem c_ (he:VR X Z e fa) (hl:VO X Z lo fl) (hh:VO X Z hi fh):VP X Z (.Subscript e (.Slice lo hi none p2) pos) (Wx fa fl fh) :=
 .mk fun tm=>PE.weak (As R' (he tm) (hl tm) (hh tm)) fun σ H Q ⟨ρ,O,q,I,hf,k⟩=>⟨ρ,O,_,I,hf,fun x hx v H1 s1 a1=>⟨ρ,O,_,I.same s1,hx,fun l hl H2 s2=>⟨ρ,O,_,(I.same s1).same s2,hl,fun u hu H3 s3=>by
  have J:=((I.same s1).same s2).same s3
  have a3:=(a1.same s2).same s3
  have S:=(s1.trans s2).trans s3
  unfold Vd at hu
  split at hu
  · obtain ⟨p,vs,rfl,q1,q2⟩:=a3.lst
    exact .inl ⟨p,vs,rfl,q1,fun r hr=>k _ hu _ _ (S.trans (aM hr)) (J.yp hr (q2.cut _ _))⟩
  · obtain ⟨p,vs,rfl,q1,q2⟩:=a3.tup
    refine .inr (.inl ⟨p,vs,rfl,q1,by rw [q2.length]; exact hu.1,fun r hr=>k _ hu.2 _ _ (S.trans (aM hr)) ⟨J.same (aM hr),bt (dq.of aX) ((q2.cut _ _).same (aM hr))⟩⟩)
  · exact .inr (.inr ⟨_,a3.str,hu.1,k _ hu.2 _ H3 S ⟨J,bE⟩⟩)
  · exact hu.elim⟩⟩⟩
end
def F1 (g:FA) (p:List T→(Rt→Prop)→Prop):FP:=fun ρ Q=>g ρ fun ts=>p ts Q
def i6 (K:PySem.W.Frag) (r:List V→Hp→VK→Prop) (p:List T→(Rt→Prop)→Prop):Prop :=
 ∀ (Z:Zc) (tm:List (T×V)) (O:List (Option Addr)) (ρ:En) (σ:St) (H:Hp) (ts:List T) (vs:List V) (q:Rt→Prop) (Q:VK),aq K Z tm O ρ σ H→Paired (fun v t=>fU K H (av Z O) t v) vs ts→p ts q →
  (∀ t,q t→∀ u H',aK H H'→gH K Z tm O ρ σ H' t u→Q u H')→r vs H Q
section
variable {X:Cx} {Z:Zc} {e a b:Expr} {es:List Expr} {pos p:Pos} {g:FA} {x:Str} {id Ty:String} {r:List V→Hp→VK→Prop} {pp:List T→(Rt→Prop)→Prop}
theorem ax (hc:cM X (.builtin id) r) (ht:i6 X.K r pp) (hg:Gl X x) (hm:X.mg x=none) (hv:bootBuiltins x=some (.builtin id)) (ha:FT X Z (e :: es) g) (hn:x≠"__name__":=by decide) (u4:(x == ("__debug__" : Str))=false:=by decide)
  (hs:starEach (e :: es) X.env=(false,eval e X.env) :: starEach es X.env:=by rfl) (jU:(backTo pos (starEach es X.env)).any (·.1)=false:=by rfl):VP X Z (.Call (.Name x p) (e :: es) [] pos) (F1 g pp) :=
 .mk fun tm=>PE.weak (lZ hc hg hm hv (ha tm) hn u4 hs jU) fun σ H Q ⟨ρ,O,q,I,hf,k⟩=>⟨ρ,O,_,I,hf,fun ts fW vs H1 s1 a1=>ht Z tm O ρ σ H1 ts vs q _ (I.same s1) a1 fW fun t h u H' s z=>k t h u H' (s1.trans s) z⟩
theorem b_ (hc:cM X (.type Ty) r) (ht:i6 X.K r pp) (hg:Gl X x) (hm:X.mg x=none) (hv:bootBuiltins x=some (.type Ty)) (ha:FT X Z (e :: es) g) (hn:x≠"__name__":=by decide) (u4:(x == ("__debug__" : Str))=false:=by decide)
  (hs:starEach (e :: es) X.env=(false,eval e X.env) :: starEach es X.env:=by rfl) (jU:(backTo pos (starEach es X.env)).any (·.1)=false:=by rfl):VP X Z (.Call (.Name x p) (e :: es) [] pos) (F1 g pp) :=
 .mk fun tm=>PE.weak (pB hc hg hm hv (ha tm) hn u4 hs jU) fun σ H Q ⟨ρ,O,q,I,hf,k⟩=>⟨ρ,O,_,I,hf,fun ts fW vs H1 s1 a1=>ht Z tm O ρ σ H1 ts vs q _ (I.same s1) a1 fW fun t h u H' s z=>k t h u H' (s1.trans s) z⟩
end
def Mp (ts:List T) (q:Rt→Prop):Prop:=match ts with
 | [.lst l]=>q (.vw (.int l.length))
 | [.tup l]=>q (.vw (.int l.length))
 | [.str z]=>z.length≤sizeLine∧q (.vw (.int z.length))
 | _=>False
def F2 (K:PySem.W.Frag):List V→Hp→VK→Prop:=fun xs H Q=>(∃ p ys,xs=[.ref p]∧(eB K H p ys∨dq K H p ys)∧Q (.int ys.length) H)∨(∃ z,xs=[.str z]∧z.length≤sizeLine∧Q (.int z.length) H)
theorem az {X:Cx}:cM X (.builtin "len") (F2 X.K):=cM.or qk ql
theorem cc {α β:Type} {F:α→β→Prop} {vs:List α} {t:β} (h:Paired F vs [t]):∃ v,vs=[v]∧F v t:=by
 cases h with
 | cons r q=>cases q; exact ⟨_,rfl,r⟩
theorem aB {K:PySem.W.Frag}:i6 K (F2 K) Mp:=by
 intro Z tm O ρ σ H ts vs q Q I h hp k
 unfold Mp at hp
 split at hp
 · obtain ⟨v,rfl,a⟩:=cc h
   obtain ⟨p,ws,rfl,q1,q2⟩:=a.lst
   exact .inl ⟨p,ws,rfl,.inl q1,k _ hp _ H (aK.refl H) ⟨I,by rw [q2.length]; exact bD⟩⟩
 · obtain ⟨v,rfl,a⟩:=cc h
   obtain ⟨p,ws,rfl,q1,q2⟩:=a.tup
   exact .inl ⟨p,ws,rfl,.inr q1,k _ hp _ H (aK.refl H) ⟨I,by rw [q2.length]; exact bD⟩⟩
 · obtain ⟨v,rfl,a⟩:=cc h
   exact .inr ⟨_,by rw [a.str],hp.1,k _ hp.2 _ H (aK.refl H) ⟨I,bD⟩⟩
 · exact hp.elim
def F3 (ts:List T) (q:Rt→Prop):Prop:=match ts with
 | [.lst l]=>q (.fr (.lst l))
 | [.tup l]=>q (.fr (.lst l))
 | _=>False
theorem mh {K:PySem.W.Frag}:i6 K (fun xs H Q=>∃ p ys,xs=[.ref p]∧(eB K H p ys∨dq K H p ys)∧∀ l,H l=none→Q (.ref l) (upd H l (.lst ys))) F3:=by
 intro Z tm O ρ σ H ts vs q Q I h hp k
 unfold F3 at hp
 split at hp
 · obtain ⟨v,rfl,a⟩:=cc h
   obtain ⟨p,ws,rfl,q1,q2⟩:=a.lst
   exact ⟨p,ws,rfl,.inl q1,fun l hl=>k _ hp _ _ (aM hl) (I.yp hl q2)⟩
 · obtain ⟨v,rfl,a⟩:=cc h
   obtain ⟨p,ws,rfl,q1,q2⟩:=a.tup
   exact ⟨p,ws,rfl,.inr q1,fun l hl=>k _ hp _ _ (aM hl) (I.yp hl q2)⟩
 · exact hp.elim
def AS (ts:List T) (q:Rt→Prop):Prop:=match ts with
 | [.lst l]=>q (.vw (.tup l))
 | [.tup l]=>q (.vw (.tup l))
 | _=>False
theorem dQ {K:PySem.W.Frag}:i6 K (fun xs H Q=>∃ p ys,xs=[.ref p]∧((eB K H p ys∧∀ l,H l=none→Q (.ref l) (upd H l (.tup ys)))∨(dq K H p ys∧Q (.ref p) H))) AS:=by
 intro Z tm O ρ σ H ts vs q Q I h hp k
 unfold AS at hp
 split at hp
 · obtain ⟨v,rfl,a⟩:=cc h
   obtain ⟨p,ws,rfl,q1,q2⟩:=a.lst
   exact ⟨p,ws,rfl,.inl ⟨q1,fun l hl=>k _ hp _ _ (aM hl) ⟨I.same (aM hl),bt (dq.of aX) (q2.same (aM hl))⟩⟩⟩
 · obtain ⟨v,rfl,a⟩:=cc h
   obtain ⟨p,ws,rfl,q1,q2⟩:=a.tup
   exact ⟨p,ws,rfl,.inr ⟨q1,k _ hp _ H (aK.refl H) ⟨I,bt q1 q2⟩⟩⟩
 · exact hp.elim
structure HV where
 nx:En→Prop
 rt:En→Rt→Prop
 bk:En→Prop:=fun _=>False
 ct:En→Prop:=fun _=>False
structure Fin (K:PySem.W.Frag) (Z:Zc) (tm:List (T×V)) (d:HV) (D:Ends):Prop where
 nx:∀ O ρ σ H,aq K Z tm O ρ σ H→d.nx ρ→D.nx σ H
 rt:∀ O ρ σ H r v,gH K Z tm O ρ σ H r v→d.rt ρ r→D.rt v H
 bk:∀ O ρ σ H,aq K Z tm O ρ σ H→d.bk ρ→D.bk σ H
 ct:∀ O ρ σ H,aq K Z tm O ρ σ H→d.ct ρ→D.ct σ H
abbrev FS:=HV→En→Prop
def lS (X:Cx) (Z:Zc) (tm:List (T×V)) (g:FS):TS:=fun D σ H=>∃ ρ O d,aq X.K Z tm O ρ σ H∧g d ρ∧Fin X.K Z tm d D
def VS (X:Cx) (Z:Zc) (st:Stmt) (g:FS):Prop:=Bx fun tm=>PS X st (lS X Z tm g)
instance {X:Cx} {Z:Zc} {st:Stmt} {g:FS}:CoeFun (VS X Z st g) fun _=>∀ tm,PS X st (lS X Z tm g):=⟨fun h=>Bx.h h⟩
def lF (X:Cx) (Z:Zc) (st:List Stmt) (g:FS):Prop:=Bx fun tm=>lz X st (lS X Z tm g)
instance {X:Cx} {Z:Zc} {st:List Stmt} {g:FS}:CoeFun (lF X Z st g) fun _=>∀ tm,lz X st (lS X Z tm g):=⟨fun h=>Bx.h h⟩
def aT (Z:Zc) (i:Nat):Prop:=∀ p∈Z.P,p.1≠i
section
variable {X:Cx} {Z:Zc} {st:Stmt} {rest:List Stmt} {g u:FS} {e:Expr} {pos:Pos}
def Mq:FS:=fun d ρ=>d.nx ρ
def Sa (g u:FS):FS:=fun d ρ=>g { d with nx:=u d } ρ
theorem ay:lF X Z [] Mq:=.mk fun tm=>lz.sF C4 fun D σ H ⟨ρ,O,d,I,h,F⟩=>F.nx O ρ σ H I h
theorem ae (h1:VS X Z st g) (h2:lF X Z rest u):lF X Z (st :: rest) (Sa g u):=.mk fun tm=>lz.sF (Ae (h1 tm) (h2 tm)) fun D σ H ⟨ρ,O,d,I,h,F⟩ =>
 ⟨ρ,O,{ d with nx:=u d },I,h,⟨fun O' ρ' σ' H' I' h'=>⟨ρ',O',d,I',h',F⟩,F.rt,F.bk,F.ct⟩⟩
theorem af (h1:VS X Z st g):lF X Z [st] g:=.mk fun tm=>C5 (h1 tm)
theorem lF.weak (h:lF X Z rest g) (hw:∀ d ρ,u d ρ→g d ρ):lF X Z rest u:=.mk fun tm=>lz.sF (h tm) fun D σ H ⟨ρ,O,d,I,q,F⟩=>⟨ρ,O,d,I,hw d ρ q,F⟩
def Mr (f:FX):FS:=fun d ρ=>f ρ fun ρ' _=>d.nx ρ'
theorem aW {f:FX} (h:VX X Z e f) (hs:swapsWith e none pos.line X.env=pure false:=by rfl):VS X Z (.Expr e pos) (Mr f):=.mk fun tm=>PS.weak (C6 (h tm) hs) fun D σ H ⟨ρ,O,d,I,q,F⟩ =>
 ⟨ρ,O,_,I,q,fun ρ' r hr O' v H' z=>F.nx O' ρ' σ H' z.env hr⟩
def Sb (f:FX):FS:=fun d ρ=>f ρ fun ρ' r=>d.rt ρ' r
theorem aw {f:FX} (h:VX X Z e f):VS X Z (.Return (some e) pos) (Sb f):=.mk fun tm=>PS.weak (G7 (h tm)) fun D σ H ⟨ρ,O,d,I,q,F⟩ =>
 ⟨ρ,O,_,I,q,fun ρ' r hr O' v H' z=>F.rt O' ρ' σ H' r v z hr⟩
def Wy (c:FB) (g u:FS):FS:=fun d ρ=>c ρ fun b=>if b=true then g d ρ else u d ρ
theorem aQ {c:Expr} {fc:FB} {a b:List Stmt} (hc:VC X Z c fc) (ha:lF X Z a g) (hb:lF X Z b u):VS X Z (.If c a b pos) (Wy fc g u):=.mk fun tm=>PS.weak (Lz (hc tm) (ha tm) (hb tm)) fun D σ H ⟨ρ,O,d,I,q,F⟩ =>
 ⟨ρ,O,_,I,q,fun b hb H' s=>by
   cases b with
   | true=>rw [if_pos rfl] at hb ⊢; exact ⟨ρ,O,d,I.same s,hb,F⟩
   | false=>rw [if_neg iS] at hb ⊢; exact ⟨ρ,O,d,I.same s,hb,F⟩⟩
def Ms (i:Nat) (f:FX):FS:=fun d ρ=>f ρ fun ρ' r=>d.nx (ρ'.set i (some (r.t,false)))
def Sd (i:Nat) (f:FX):FS:=fun d ρ=>f ρ fun ρ' r=>match r with
 | .fr t=>d.nx (ρ'.set i (some (t,true)))
 | _=>False
theorem aS {i:Nat} {x:Str} {f:FX} {pos':Pos} (hN:X.N.Nodup) (hi:X.N[i]?=some x) (hx:Loc X.env.scope x) (he:VX X Z e f) (hp:aT Z i) (hs:swapsWith e (some (.Name x pos')) pos.line X.env=pure false:=by rfl)
  (hf:X.fn x=true∨X.env.scope.names.lookup x=some .local:=by first | exact .inl rfl | exact .inr rfl | assumption):VS X Z (.Assign [.Name x pos'] e pos) (Ms i f):=.mk fun tm=>PS.weak (Ai hN hi hx (he tm) hs hf) fun D σ H ⟨ρ,O,d,I,q,F⟩ =>
 ⟨ρ,O,_,I,q,fun ρ' r hr O' v H' z=>F.nx _ _ _ H' (z.env.put hp z.at) hr⟩
theorem e8 {i:Nat} {x:Str} {f:FX} {pos':Pos} (hN:X.N.Nodup) (hi:X.N[i]?=some x) (hx:Loc X.env.scope x) (he:VX X Z e f) (hp:aT Z i) (hs:swapsWith e (some (.Name x pos')) pos.line X.env=pure false:=by rfl)
  (hf:X.fn x=true∨X.env.scope.names.lookup x=some .local:=by first | exact .inl rfl | exact .inr rfl | assumption):VS X Z (.Assign [.Name x pos'] e pos) (Sd i f):=.mk fun tm=>PS.weak (Ai hN hi hx (he tm) hs hf) fun D σ H ⟨ρ,O,d,I,q,F⟩ =>
 ⟨ρ,O,_,I,q,fun ρ' r hr O' v H' z=>by
   split at hr
   · obtain ⟨a,rfl,J,hR,h0,KN⟩:=z
     exact F.nx _ _ _ H' (J.RW hp hR h0 KN) hr
   · exact hr.elim⟩
def Mt (i:Nat) (f:FE) (p:T→T→(Rt→Prop)→Prop):FS:=fun d ρ=>match ρ[i]? with
 | some (some (x,false))=>f ρ fun y=>p x y fun r=>d.nx (ρ.set i (some (r.t,false)))
 | _=>False
theorem HW {i:Nat} {x:Str} {f:FE} {op:Operator} {r:R2} {p:T→T→(Rt→Prop)→Prop} {pos':Pos} (hN:X.N.Nodup) (hi:X.N[i]?=some x) (hx:Loc X.env.scope x) (he:VR X Z e f) (ho:eC X (inplaceOp op) r) (ht:oB X.K r p) (hp:aT Z i)
  (hf:X.fn x=true∨X.env.scope.names.lookup x=some .local:=by first | exact .inl rfl | exact .inr rfl | assumption):VS X Z (.AugAssign (.Name x pos') op e pos) (Mt i f p):=.mk fun tm=>PS.weak (G' hN hi hx (he tm) ho hf) fun D σ H ⟨ρ,O,d,I,q,F⟩=>by
 unfold Mt at q
 split at q
 · rename_i t e0
   obtain ⟨o,s,h1,h2,rfl,v,rfl,h3⟩:=I.sl i _ e0
   refine ⟨v,h2,ρ,O,_,I,q,fun y hy w H1 s1 a1=>?_⟩
   exact ht Z tm O ρ σ H1 t y v w _ _ (I.same s1) (.inl (h3.same s1)) a1 hy fun r hr z H2 s2 k=>F.nx _ _ _ H2 (k.env.put hp k.at) hr
 · exact q.elim
def Se (is:List Nat) (g:FS):FS:=fun d ρ=>g d (is.foldl (fun ρ i=>match ρ[i]? with
 | some (some (t,true))=>ρ.set i (some (t,false))
 | _=>ρ) ρ)
theorem mi {K:PySem.W.Frag} {tm:List (T×V)}:∀ (is:List Nat) {O:List (Option Addr)} {ρ:En} {σ:St} {H:Hp},(∀ i∈is,aT Z i)→aq K Z tm O ρ σ H→∃ O',aq K Z tm O' (is.foldl (fun ρ i=>match ρ[i]? with
 | some (some (t,true))=>ρ.set i (some (t,false))
 | _=>ρ) ρ) σ H
 | [],O,ρ,σ,H,_,I=>⟨O,I⟩
 | i :: is,O,ρ,σ,H,hp,I=>by
   rw [List.foldl_cons]
   have Qj:∀ j∈is,aT Z j:=fun j hj=>hp j (g9 _ hj)
   split
   · rename_i t e
     exact mi is Qj (I.sd (hp i eW) e)
   · exact mi is Qj I
theorem xl (is:List Nat) (h:lF X Z rest g) (hp:∀ i∈is,aT Z i):lF X Z rest (Se is g):=.mk fun tm=>lz.sF (h tm) fun D σ H ⟨ρ,O,d,I,q,F⟩=>let ⟨O',I'⟩:=mi is hp I; ⟨_,O',d,I',q,F⟩
end
section
variable {X:Cx} {Z:Zc} {e a b:Expr} {es:List Expr} {pos apos a_:Pos}
theorem aq.root {K:PySem.W.Frag} {tm:List (T×V)} {O:List (Option Addr)} {ρ:En} {σ:St} {H:Hp} (I:aq K Z tm O ρ σ H) {k:Nat} {t:T} (e:ρ[k]?=some (some (t,true))):∃ a,O[k]?=some (some a)∧σ[k]?=some (some (.ref a))∧cq K H (av Z O) a t:=by
 obtain ⟨o,s,h1,h2,a,rfl,rfl,h3⟩:=I.sl k _ e
 exact ⟨a,h1,h2,h3⟩
def xm (k:Nat) (g:FA) (p:List T→List T→(List T→T→Prop)→Prop):FX:=fun ρ Q=>match ρ[k]? with
 | some (some (.lst ts,true))=>g ρ fun vs=>p ts vs fun iJ r=>Q (ρ.set k (some (.lst iJ,true))) (.vw r)
 | _=>False
def KQ (K:PySem.W.Frag) (r:V→List V→Hp→VK→Prop) (p:List T→List T→(List T→T→Prop)→Prop):Prop :=
 ∀ (H:Hp) (A:List Addr) (l:Addr) (xs:List V) (ts us:List T) (vs:List V) (q:List T→T→Prop) (Q:VK),l∈A→H l=some (.lst xs)→au K H A ts xs→au K H A us vs→p ts us q →
  (∀ iJ t,q iJ t→∀ Qk v,au K H A iJ Qk→At K H A t v→Q v (upd H l (.lst Qk)))→r (.ref l) vs H Q
theorem xn {r:V→List V→Hp→VK→Prop} {p:List T→List T→(List T→T→Prop)→Prop} (hm:KQ X.K r p) {k:Nat} {g:FA} {tm:List (T×V)} {σ:St} {H:Hp} {Q:VK} (h:lX X Z tm (xm k g p) σ H Q) :
  ∃ l,σ[k]?=some (some (.ref l))∧(∃ xs,eB X.K H l xs)∧lA X Z tm g σ H fun vs H1=>r (.ref l) vs H1 Q:=by
 obtain ⟨ρ,O,q,I,hf,kk⟩:=h
 unfold xm at hf
 split at hf
 · rename_i ts e0
   obtain ⟨l,h1,h2,xs,h3,h4⟩:=I.root e0
   refine ⟨l,h2,⟨xs,eB.of h3⟩,ρ,O,_,I,hf,fun us L7 vs H1 s1 a1=>?_⟩
   have J:=I.same s1
   have ha:l∈av Z O:=iU _ (aH.mpr (jO h1))
   refine hm H1 (av Z O) l xs ts us vs _ Q ha (s1 _ _ h3) (h4.same s1) a1 L7 fun iJ t ht Qk v b1 b2=>?_
   exact kk _ _ ht O _ _ ⟨J.wrote e0 h1 ⟨Qk,aX,b1.wrote ha (s1 _ _ h3) rfl⟩,b2.wrote ha (s1 _ _ h3) rfl⟩
 · exact hf.elim
theorem du (k:Nat) {x name:Str} {id:String} {p:Pos} {g:FA} {r:V→List V→Hp→VK→Prop} {pp:List T→List T→(List T→T→Prop)→Prop} (slot:Slot "list" name id) (HA:typeOf (.builtin id)=pure (.type "method_descriptor")) (hm:zS X id r) (ht:KQ X.K r pp) (ha:VA X Z (e :: es) g)
  (hN:X.N[k]?=some x:=by rfl) (hv:uJ X.env.scope x:=by first | exact Or.inl rfl | exact Or.inr (Or.inl rfl) | exact Or.inr (Or.inr rfl)) (hd:(x == ("__debug__" : Str))=false:=by decide)
  (iq:(x == ("__classdict__" : Str))=false:=by decide) (dO:attributeBase (.Name x p) name X.env (eval (.Name x p) X.env)=eval (.Name x p) X.env:=by rfl)
  (jX:((backTo a_ (starEach (e :: es) X.env)).all (fun x=>!x.1) && (backToKw a_ (keywordEach [] X.env)).all (fun x=>x.1.isSome)
    && decide ((e :: es).length+([]:List Keyword).length+(if ([]:List Keyword).isEmpty then 0 else 1) < 30))=true:=by rfl)
  (dP:(apos.endLine == a_.line)=true:=by rfl) (hs:starEach (e :: es) X.env=(false,eval e X.env) :: starEach es X.env:=by rfl) (dw:(backTo a_ (starEach es X.env)).any (·.1)=false:=by rfl) :
  VX X Z (.Call (.Attribute (.Name x p) name apos) (e :: es) [] a_) (xm k g pp):=.mk fun tm =>
 PE.weak (pC QP slot HA hm (eA hN hv hd iq) (ha tm) dO jX dP hs dw) fun σ H Q h =>
  let ⟨l,h1,h2,h3⟩:=xn ht h; ⟨.ref l,h1,.inl ⟨rfl,h2⟩,h3⟩
theorem vf (k:Nat) {x name:Str} {id:String} {p:Pos} {r:V→List V→Hp→VK→Prop} {pp:List T→List T→(List T→T→Prop)→Prop} (slot:Slot "list" name id) (HA:typeOf (.builtin id)=pure (.type "method_descriptor")) (hm:zS X id r) (ht:KQ X.K r pp)
  (hN:X.N[k]?=some x:=by rfl) (hv:uJ X.env.scope x:=by first | exact Or.inl rfl | exact Or.inr (Or.inl rfl) | exact Or.inr (Or.inr rfl)) (hd:(x == ("__debug__" : Str))=false:=by decide)
  (iq:(x == ("__classdict__" : Str))=false:=by decide) (dO:attributeBase (.Name x p) name X.env (eval (.Name x p) X.env)=eval (.Name x p) X.env:=by rfl)
  (dP:(apos.endLine == a_.line)=true:=by rfl):VX X Z (.Call (.Attribute (.Name x p) name apos) [] [] a_) (xm k AJ pp):=.mk fun tm =>
 PE.weak (Hz QP slot HA hm (eA hN hv hd iq) dO dP) fun σ H Q h=>by
  obtain ⟨l,h1,h2,ρ,O,q,I,hf,kk⟩:=xn ht h
  exact ⟨.ref l,h1,.inl ⟨rfl,h2⟩,kk [] hf [] H (aK.refl H) au.nil⟩
def xo (ts us:List T) (q:List T→T→Prop):Prop:=match us with
 | [t]=>ts.length < sizeLine∧q (ts ++ [t]) .bp
 | _=>False
theorem aV {K:PySem.W.Frag}:KQ K xc xo:=by
 intro H A l xs ts us vs q Q hl hH h1 h2 hp k
 unfold xo at hp
 split at hp
 · obtain ⟨v,rfl,a⟩:=cc (au.iff.mp h2)
   exact ⟨l,xs,v,rfl,rfl,hH,by rw [h1.length]; exact hp.1,k _ _ hp.2 _ _ (h1.append (au.cons a au.nil)) iF⟩
 · exact hp.elim
def Sf (ts us:List T) (q:List T→T→Prop):Prop:=us=[]∧∃ t,ts[ts.length - 1]?=some t∧q ts.dropLast t
theorem au.dropLast {K:PySem.W.Frag} {H:Hp} {A:List Addr} {ts:List T} {vs:List V} (h:au K H A ts vs):au K H A ts.dropLast vs.dropLast:=by
 rw [List.dropLast_eq_take,List.dropLast_eq_take,h.length]
 exact h.take _
theorem xp {K:PySem.W.Frag}:KQ K L6 Sf:=by
 intro H A l xs ts us vs q Q hl hH h1 h2 hp k
 obtain ⟨rfl,t,e1,hq⟩:=hp
 have e:vs=[]:=by simpa only [au] using h2
 obtain ⟨v,e2,a⟩:=h1.get e1
 exact ⟨l,xs,v,rfl,e,hH,by rw [h1.length]; exact e2,k _ _ hq _ _ h1.dropLast a⟩
def Sg (ts us:List T) (q:List T→T→Prop):Prop:=us=[]∧q ts.reverse .bp
theorem sJ {K:PySem.W.Frag}:KQ K sj Sg:=by
 intro H A l xs ts us vs q Q hl hH h1 h2 hp k
 obtain ⟨rfl,hp⟩:=hp
 have e:vs=[]:=by simpa only [au] using h2
 exact ⟨l,xs,rfl,e,hH,k _ _ hp _ _ h1.reverse iF⟩
def F4 (k:Nat) (f fi:FE):FS:=fun d ρ=>match ρ[k]? with
 | some (some (.lst ts,true))=>f ρ fun v=>fi ρ fun i=>match i with
   | .int j=>∃ n,w_ ts.length j=some n∧d.nx (ρ.set k (some (.lst (ts.set n v),true)))
   | _=>False
 | _=>False
theorem vg (k:Nat) {x:Str} {p:Pos} {f fi:FE} {i:Expr} {oh:Pos} (he:VE X Z e f) (hi:VR X Z i fi)
  (hN:X.N[k]?=some x:=by rfl) (hv:uJ X.env.scope x:=by first | exact Or.inl rfl | exact Or.inr (Or.inl rfl) | exact Or.inr (Or.inr rfl)) (hd:(x == ("__debug__" : Str))=false:=by decide)
  (iq:(x == ("__classdict__" : Str))=false:=by decide)
  (ha:∀ v,assign (.Subscript (.Name x p) i oh) X.env v=(do
    let ov ← holding [v] (eval (.Name x p) X.env)
    let iv ← holding [v,ov] (eval i X.env)
    standAt oh
    holding [v,ov,iv] (setItem ov iv v)
    release [v,ov,iv] []):=by intro _; rfl)
  (hs:swapsWithSole [.Subscript (.Name x p) i oh] e pos.line X.env=pure false:=by rfl) (hw:swappedStores [.Subscript (.Name x p) i oh] e X.env=pure none:=by rfl)
  (h1:(assignEach [.Subscript (.Name x p) i oh] X.env).map (·.2)=[assign (.Subscript (.Name x p) i oh) X.env]:=by rfl):VS X Z (.Assign [.Subscript (.Name x p) i oh] e pos) (F4 k f fi):=.mk fun tm =>
 PS.weak (Ah (he tm) (G_ (eA hN hv hd iq) (hi tm) set_list ha) hs hw h1) fun D σ H ⟨ρ,O,d,I,q,F⟩=>by
  unfold F4 at q
  split at q
  · rename_i ts e0
    obtain ⟨l,h1,h2,xs,h3,h4⟩:=I.root e0
    have ha:l∈av Z O:=iU _ (aH.mpr (jO h1))
    refine ⟨ρ,O,_,I,q,fun t ht v H1 s1 a1=>⟨.ref l,h2,ρ,O,_,I.same s1,ht,fun j hj w H2 s2 a2=>?_⟩⟩
    split at hj
    · obtain ⟨n,e1,hj⟩:=hj
      refine ⟨l,xs,_,n,rfl,a2.int,s2 _ _ (s1 _ _ h3),by rw [h4.length]; exact e1,?_⟩
      refine F.nx O _ σ _ (((I.same s1).same s2).wrote (t':=.lst (ts.set n t)) e0 h1 ⟨xs.set n v,aX,?_⟩) hj
      exact au.wrote ha (s2 _ _ (s1 _ _ h3)) rfl (((h4.same s1).same s2).set n (a1.same s2))
    · exact hj.elim
  · exact q.elim
theorem aq.give {K:PySem.W.Frag} {tm:List (T×V)} {O:List (Option Addr)} {ρ:En} {σ:St} {H:Hp} (I:aq K Z tm O ρ σ H) {i:Nat} {t:T} (hp:aT Z i) (hi:ρ[i]?=some (some (t,true))):∃ a,σ[i]?=some (some (.ref a))∧gH K Z tm (O.set i none) (ρ.set i none) σ H (.fr t) (.ref a):=by
 obtain ⟨a,h1,h2,h3⟩:=I.root hi
 have ha:a∈roots O:=aH.mpr (jO h1)
 obtain ⟨o1,o2,o3⟩:=I.own a ha
 have J:=I.forget hp
 have J2:=I.sd hp hi
 have na:a∉roots (O.set i none):=fun z=>by
  obtain ⟨o,s,g1,g2,g3,v,g4,g5⟩:=J2.sl i (some (t,false)) (by rw [CA (by rw [← I.lO]; exact (h9.mp h1).1)])
  rw [h2] at g2
  cases g2
  cases g4
  have nn:a∉av Z (O.set i none):=by
   obtain ⟨u,eu,mu⟩:=h3.mut
   cases t with
   | lst ts=>simp only [At] at g5; obtain ⟨b,vs,eb,l,_⟩:=g5; cases eb; rcases l with l | ⟨oo,_,_,lk,_⟩
             · exact l.2
             · exact fun z2=>by
                have key:∀ (O:List (Option Addr)) (i:Nat),O[i]?=some (some a)→(roots O).Nodup→a∉roots (O.set i none):=by
                 intro O
                 induction O with
                 | nil=>intro i h; simp at h
                 | cons o O ih =>
                   intro i h nd
                   cases i with
                   | zero =>
                     have:o=some a:=by simpa using h
                     subst this
                     simp only [roots,P0,lx,id] at nd ⊢
                     exact (pe.mp nd).1
                   | succ i =>
                     have h':O[i]?=some (some a):=by simpa using h
                     cases o with
                     | none=>simp only [roots,Ku,lx,id] at nd ⊢; exact ih i h' nd
                     | some b =>
                       simp only [roots,Ku,lx,id] at nd ⊢
                       rw [pe] at nd
                       intro z
                       rcases cn.mp z with z | z
                       · exact nd.1 (by rw [← z]; exact aH.mpr (jO h'))
                       · exact ih i h' nd.2 z
                rcases gD.mp z2 with z2 | z2
                · exact key O i h1 I.nd z2
                · exact o2 z2
   | dk ks ts=>simp only [At] at g5; obtain ⟨b,vs,eb,_,d,_⟩:=g5; cases eb; exact d.2
   | dt ks ts=>simp only [At] at g5; obtain ⟨b,vs,eb,_,d,_⟩:=g5; cases eb; exact d.2
   | ins C ns ts=>simp only [At] at g5; obtain ⟨b,dx,vs,eb,_,d,_⟩:=g5; cases eb; exact d.2
   | _=>exact h3.elim
  exact nn (iU _ z)
 have hP:Z.H0 a=none:=by
  rcases o1 with z | z
  · obtain ⟨p,Wz,rfl⟩:=iV.mp z
    have:=J.par p Wz
    exact absurd (aH.mpr (jO this)) na
  · exact z
 have sub:∀ b∈av (Z.ex a) (O.set i none),b∈av Z O:=fun b hb=>by
  rcases cY b hb with z | z
  · exact cb i b z
  · rw [z]; exact iU _ ha
 refine ⟨a,h2,a,rfl,⟨J.lσ,J.lO,fun j e h=>?_,J.nd,fun b hb=>?_,J.par,fun b hb=>?_,J.keep,fun p hp=>(I.oA p hp).bh sub⟩,h3.bh sub,hP,o2⟩
 · rcases get_set h with ⟨rfl,rfl,hl⟩ | ⟨ne,h⟩
   · obtain ⟨o,s,g1,g2,g3⟩:=J.sl j none (by rw [CA hl])
     exact ⟨o,s,g1,g2,g3⟩
   · obtain ⟨o,s,g1,g2,g3⟩:=I.sl j e h
     exact ⟨o,s,by rw [uM (Ne.symm ne)]; exact g1,g2,g3.map (fun _ _ q=>q.bh sub) fun _ _ _ q=>q.bh sub⟩
 · obtain ⟨q1,q2,q3⟩:=J.own b hb
   refine ⟨q1,fun z=>?_,q3⟩
   rcases cn.mp z with z | z
   · exact na (by rw [← z]; exact hb)
   · exact q2 z
 · rcases cn.mp hb with z | z
   · obtain ⟨u,eu,_⟩:=o3; rw [z,eu]; simp
   · exact I.ox b z
def F5 (i:Nat):FX:=fun ρ Q=>match ρ[i]? with
 | some (some (t,true))=>Q (ρ.set i none) (.fr t)
 | some (some (t,false))=>Q ρ (.vw t)
 | _=>False
theorem i7 (i:Nat) {x:Str} (hp:aT Z i) (hN:X.N[i]?=some x:=by rfl) (hv:uJ X.env.scope x:=by first | exact Or.inl rfl | exact Or.inr (Or.inl rfl) | exact Or.inr (Or.inr rfl)) (hd:(x == ("__debug__" : Str))=false:=by decide)
  (iq:(x == ("__classdict__" : Str))=false:=by decide):VX X Z (.Name x pos) (F5 i):=.mk fun tm=>PE.weak (eA hN hv hd iq) fun σ H Q ⟨ρ,O,q,I,hf,k⟩=>by
 unfold F5 at hf
 split at hf
 · rename_i t e
   obtain ⟨a,h1,h2⟩:=I.give hp e
   exact ⟨_,h1,k _ _ hf _ _ H h2⟩
 · rename_i t e
   obtain ⟨o,s,h1,h2,rfl,v,rfl,h3⟩:=I.sl i _ e
   exact ⟨v,h2,k _ _ hf O v H ⟨I,h3⟩⟩
 · exact hf.elim
end
theorem aq.sL {K:PySem.W.Frag} {Z:Zc} {tm Ve:List (T×V)} {O:List (Option Addr)} {ρ:En} {σ:St} {H:Hp} (I:aq K Z tm O ρ σ H) (h:∀ p∈Ve,At K H (av Z O) p.1 p.2):aq K Z Ve O ρ σ H :=
 ⟨I.lσ,I.lO,I.sl,I.nd,I.own,I.par,I.ox,I.keep,h⟩
theorem gH.sL {K:PySem.W.Frag} {Z:Zc} {bH tm:List (T×V)} {O:List (Option Addr)} {ρ:En} {σ:St} {H:Hp} {r:Rt} {v:V} (h:gH K Z (bH ++ tm) O ρ σ H r v):gH K Z tm O ρ σ H r v:=by
 cases r with
 | vw t=>exact ⟨h.1.sL fun p hp=>h.1.oA p (iR _ hp),h.2⟩
 | fr t=>obtain ⟨a,e,I,q⟩:=h; exact ⟨a,e,I.sL fun p hp=>I.oA p (iR _ hp),q⟩
def Wk (K:PySem.W.Frag) (J:It) (bH:List (T×V)) (ts:List T):Prop:=∀ H A,(∀ a∈A,H a≠none)→(∀ p∈bH,At K H A p.1 p.2)→∀ i:Nat,
 (i < ts.length→J.go i H)∧(ts.length=i→J.stop i H)∧∀ t,ts[i]?=some t→∀ x H',J.KG i H x H'→aK H H'∧At K H' A t x
abbrev FI:=En→(List T→Prop)→Prop
def lI (X:Cx) (Z:Zc) (tm:List (T×V)) (f:FI):TI:=fun σ H R=>∃ ρ O q,aq X.K Z tm O ρ σ H∧f ρ q∧∀ ts,q ts→∀ J H' bH,aK H H'→(∀ p∈bH,At X.K H' (av Z O) p.1 p.2)→Wk X.K J bH ts→R J H'
def VI (X:Cx) (Z:Zc) (tg iter:Expr) (f:FI):Prop:=Bx fun tm=>PI X tg iter (lI X Z tm f)
instance {X:Cx} {Z:Zc} {tg iter:Expr} {f:FI}:CoeFun (VI X Z tg iter f) fun _=>∀ tm,PI X tg iter (lI X Z tm f):=⟨fun h=>Bx.h h⟩
theorem PI.weak {X:Cx} {tg e:Expr} {t t':TI} (h:PI X tg e t) (hw:∀ σ H R,t' σ H R→t σ H R):PI X tg e t':=fun pins s σ H R I q=>h pins s σ H R I (hw _ _ _ q)
theorem PG.weak {X:Cx} {tg:Expr} {t t':TG} (h:PG X tg t) (hw:∀ v σ H Q,t' v σ H Q→t v σ H Q):PG X tg t':=fun pins s σ H v u Q I r q=>h pins s σ H v u Q I r (hw _ _ _ _ q)
theorem Af.weak {X:Cx} {tg:List Expr} {t t':C7} (h:Af X tg t) (hw:∀ v σ H Q,t' v σ H Q→t v σ H Q):Af X tg t':=fun pins s σ H v u Q I r q=>h pins s σ H v u Q I r (hw _ _ _ _ q)
def Sh (K:PySem.W.Frag) (tl:TE):TI:=fun σ H R=>tl σ H fun x H1=>(∃ a,x = .ref a∧(∃ xs,eB K H1 a xs)∧R (Rp K a) H1)∨(∃ a,x = .ref a∧(∃ xs,dq K H1 a xs)∧R (Rq K a) H1)∨∃ z,x = .str z∧R (Qi z) H1
section
variable {X:Cx} {Z:Zc} {tg:Expr}
theorem HX {l:Expr} {tl:TE} (hl:PE X l tl):PI X tg l (Sh X.K tl):=by
 intro pins s σ H R I h
 refine cf (hl pins s σ H _ I h) fun v s1 ⟨x,H1,I1,r1,q1⟩=>?_
 rcases q1 with ⟨a,e,hq,q⟩ | ⟨a,e,hq,q⟩ | ⟨z,e,q⟩
 · subst e
   cases r1
   obtain ⟨xs,hq⟩:=hq
   obtain ⟨aJ,rv,p,hz⟩:=I1.list hq
   refine wpAny_pyIter_list p.isList ?_
   refine ⟨s1.heap.objs.size,[s1.heap.objs.size],_,_,H1,rfl,I1.kept (t':=s1.toks) fun b o e=>d_ _ e,ya a _,⟨_,ly _ rfl,rfl,rfl⟩,fun b hb=>?_,q⟩
   have e:b=s1.heap.objs.size:=by simpa using hb
   subst e
   exact I1.og (dH _) (I1.bA.fresh (dH _))
 · subst e
   cases r1
   obtain ⟨xs,hq⟩:=hq
   obtain ⟨aJ,rv,p,hz⟩:=I1.tuple hq
   refine wpAny_pyIter_tuple (show s1.heap.IsTuple a aJ.toArray from p) ?_
   refine ⟨s1.heap.objs.size,[s1.heap.objs.size],_,_,H1,rfl,I1.kept (t':=s1.toks) fun b o e=>d_ _ e,uV a _,⟨_,ly _ rfl,rfl,rfl⟩,fun b hb=>?_,q⟩
   have e:b=s1.heap.objs.size:=by simpa using hb
   subst e
   exact I1.og (dH _) (I1.bA.fresh (dH _))
 · subst e
   obtain ⟨t,rfl⟩:=r1
   refine wpAny_pyIter_strU ?_
   have I2:Inv X pins σ H1 { s1 with heap:=s1.heap.push { cls:=.type (strIterType z),data:=.fields #[.str z t,.int 0 0] } }:=I1.kept (t':=s1.toks) fun b o e=>d_ _ e
   refine ⟨s1.heap.objs.size,[s1.heap.objs.size],_,_,H1,rfl,I2,AE z t _,⟨_,ly _ rfl,rfl,rfl⟩,fun b hb=>?_,q⟩
   have e:b=s1.heap.objs.size:=by simpa using hb
   subst e
   exact I1.og (dH _) I1.fresh
def Si (f:FE):FI:=fun ρ Q=>f ρ fun t=>match t with
 | .lst ts=>Q ts
 | .tup ts=>Q ts
 | .str z=>Q (z.cps.toList.map fun c=>.str ⟨#[c]⟩)
 | _=>False
theorem DU {K:PySem.W.Frag} {a:Addr} {ts:List T}:Wk K (Rp K a) [(.lst ts,.ref a)] ts:=fun H A hA h i=>by
 have h:=h _ eW
 simp only [At] at h
 obtain ⟨b,vs,e,l,q⟩:=h
 cases e
 have hl:=q.length
 refine ⟨fun hi=>⟨vs,vs[i]'(by omega),l.sq,by simp⟩,fun hi=>⟨vs,l.sq,by omega⟩,fun t ht x H' y=>?_⟩
 obtain ⟨rfl,y⟩:=y
 obtain ⟨v,e1,e2⟩:=q.get ht
 have:=y vs l.sq
 rw [e1] at this
 cases this
 exact ⟨aK.refl _,e2⟩
theorem HY {K:PySem.W.Frag} {a:Addr} {ts:List T}:Wk K (Rq K a) [(.tup ts,.ref a)] ts:=fun H A hA h i=>by
 have h:=h _ eW
 simp only [At] at h
 obtain ⟨b,vs,e,l,q⟩:=h
 cases e
 have hl:=q.length
 refine ⟨fun hi=>⟨vs,vs[i]'(by omega),l,by simp⟩,fun hi=>⟨vs,l,by omega⟩,fun t ht x H' y=>?_⟩
 obtain ⟨rfl,y⟩:=y
 obtain ⟨v,e1,e2⟩:=q.get ht
 have:=y vs l
 rw [e1] at this
 cases this
 exact ⟨aK.refl _,e2⟩
theorem HZ {K:PySem.W.Frag} {z:Str}:Wk K (Qi z) [] (z.cps.toList.map fun c=>T.str ⟨#[c]⟩):=fun H A hA h i=>by
 refine ⟨fun hi=>by rw [bU,Fw] at hi; exact hi,fun hi=>by rw [bU,Fw] at hi; exact Nat.le_of_eq hi,fun t ht x H' y=>?_⟩
 obtain ⟨rfl,c,hc,rfl⟩:=y
 rw [oa,PV,hc] at ht
 cases ht
 exact ⟨aK.refl _,bE⟩
theorem da {l:Expr} {f:FE} (h:VE X Z l f):VI X Z tg l (Si f):=.mk fun tm=>PI.weak (HX (h tm)) fun σ H R ⟨ρ,O,q,I,hf,k⟩=>⟨ρ,O,_,I,hf,fun t ht v H' s a=>by
 split at ht
 · have a0:=a
   simp only [At] at a
   obtain ⟨p,vs,rfl,l,_⟩:=a
   exact .inl ⟨p,rfl,⟨vs,l.sq⟩,k _ ht _ H' _ s (fun p hp=>by rw [r6.mp hp]; exact a0) DU⟩
 · have a0:=a
   simp only [At] at a
   obtain ⟨p,vs,rfl,l,_⟩:=a
   exact .inr (.inl ⟨p,rfl,⟨vs,l⟩,k _ ht _ H' _ s (fun p hp=>by rw [r6.mp hp]; exact a0) HY⟩)
 · have e:=a
   simp only [At] at e
   exact .inr (.inr ⟨_,e,k _ ht _ H' [] s (fun p hp=>nomatch hp) HZ⟩)
 · exact ht.elim⟩
def rangeT (lo:Int) (n:Nat):List T:=(List.range n).map fun i=>T.int (lo+((i:Nat):Int))
theorem AU {K:PySem.W.Frag} {lo:Int} {n:Nat}:Wk K (P' lo n) [] (rangeT lo n):=fun H A hA h i=>by
 unfold rangeT
 refine ⟨fun hi=>by rw [bU,CB] at hi; exact hi,fun hi=>by rw [bU,CB] at hi; exact Nat.le_of_eq hi,fun t ht x H' y=>?_⟩
 obtain ⟨rfl,rfl⟩:=y
 rw [oa] at ht
 cases e:(List.range n)[i]? with
 | none=>rw [e] at ht; cases ht
 | some j =>
   rw [e] at ht
   have hj:j=i:=by
    have:=h9.mp e
    obtain ⟨h1,h2⟩:=this
    simpa using h2.symm
   subst hj
   cases ht
   exact ⟨aK.refl _,bD⟩
def Vf (ts:List T) (Q:List T→Prop):Prop:=match ts with
 | [.int j]=>-(2 ^ 62)≤j∧j < 2 ^ 62∧Q (rangeT 0 j.toNat)
 | _=>False
def H_ (g:FA) (p:List T→(List T→Prop)→Prop):FI:=fun ρ Q=>g ρ fun ts=>p ts Q
theorem eh {a:Expr} {g:FE} {p pos:Pos} (hg:Gl X "range") (hm:X.mg "range" = none) (ha:VR X Z a g) (hs:starEach [a] X.env=[(false,eval a X.env)]:=by rfl) :
  VI X Z tg (.Call (.Name "range" p) [a] [] pos) (H_ (sG g AJ) Vf):=.mk fun tm=>PI.weak (yb hg hm ((aj ha ao hs) tm) hs) fun σ H R ⟨ρ,O,q,I,hf,k⟩=>⟨ρ,O,_,I,hf,fun ts fW vs H' s a=>by
 unfold Vf at fW
 split at fW
 · obtain ⟨v,rfl,a1⟩:=cc a
   exact ⟨_,by rw [a1.int],fW.1,fW.2.1,k _ fW.2.2 _ H' [] s (fun p hp=>nomatch hp) AU⟩
 · exact fW.elim⟩
abbrev FG:=T→En→(En→Prop)→Prop
abbrev DV:=List T→En→(En→Prop)→Prop
def lG (X:Cx) (Z:Zc) (tm:List (T×V)) (is:List Nat) (h:FG):TG:=fun v σ H Q=>∃ ρ O t q,aq X.K Z tm O ρ σ H∧At X.K H (av Z O) t v∧h t ρ q∧∀ ρ',q ρ'→∀ O' σ',aq X.K Z tm O' ρ' σ' H→(∀ a∈roots O',a∈roots O)→(∀ (j:Nat),j∉is→O'[j]?=O[j]?)→σ'.length=σ.length→(∀ (j:Nat),j∉is→σ'[j]?=σ[j]?)→Q σ' H
def Vg (X:Cx) (Z:Zc) (tm:List (T×V)) (is:List Nat) (h:DV):C7:=fun vs σ H Q=>∃ ρ O ts q,aq X.K Z tm O ρ σ H∧au X.K H (av Z O) ts vs∧h ts ρ q∧∀ ρ',q ρ'→∀ O' σ',aq X.K Z tm O' ρ' σ' H→(∀ a∈roots O',a∈roots O)→(∀ (j:Nat),j∉is→O'[j]?=O[j]?)→σ'.length=σ.length→(∀ (j:Nat),j∉is→σ'[j]?=σ[j]?)→Q σ' H
def VG (X:Cx) (Z:Zc) (tg:Expr) (is:List Nat) (h:FG):Prop:=Bx fun tm=>PG X tg (lG X Z tm is h)
instance {X:Cx} {Z:Zc} {tg:Expr} {is:List Nat} {h:FG}:CoeFun (VG X Z tg is h) fun _=>∀ tm,PG X tg (lG X Z tm is h):=⟨fun h=>Bx.h h⟩
def Mu (X:Cx) (Z:Zc) (Ql:List Expr) (is:List Nat) (h:DV):Prop:=Bx fun tm=>Af X Ql (Vg X Z tm is h)
instance {X:Cx} {Z:Zc} {Ql:List Expr} {is:List Nat} {h:DV}:CoeFun (Mu X Z Ql is h) fun _=>∀ tm,Af X Ql (Vg X Z tm is h):=⟨fun h=>Bx.h h⟩
def hName (i:Nat):FG:=fun t ρ Q=>Q (ρ.set i (some (t,false)))
theorem aI {i:Nat} {x:Str} {pos:Pos} (hN:X.N.Nodup) (hi:X.N[i]?=some x) (hx:Loc X.env.scope x) (hp:aT Z i) (hf:X.fn x=true∨X.env.scope.names.lookup x=some .local:=by first | exact .inl rfl | exact .inr rfl | assumption) :
  VG X Z (.Name x pos) [i] (hName i):=.mk fun tm=>PG.weak (C8 hN hi hx hf) fun v σ H Q ⟨ρ,O,t,q,I,a,h,k⟩ =>
 k _ h _ _ (I.put hp a) (ck i) (fun j hj=>uM (fun e=>hj (by simp [e]))) (by simp) fun j hj=>uM (fun e=>hj (by simp [e]))
def Sj:DV:=fun ts ρ Q=>ts=[]∧Q ρ
def F6 (h:FG) (hs:DV):DV:=fun ts ρ Q=>match ts with
 | t :: r=>h t ρ fun ρ'=>hs r ρ' Q
 | []=>False
def Mv (n:Nat) (h:DV):FG:=fun t ρ Q=>match t with
 | .tup ts=>ts.length=n∧h ts ρ Q
 | _=>False
theorem d4:Mu X Z [] [] Sj:=.mk fun tm=>Af.weak C9 fun vs σ H Q ⟨ρ,O,ts,q,I,a,h,k⟩=>by
 obtain ⟨rfl,h⟩:=h
 have e:vs=[]:=by simpa only [au] using a
 exact ⟨e,k _ h O σ I (fun _ z=>z) (fun _ _=>rfl) rfl fun _ _=>rfl⟩
theorem br {e:Expr} {es:List Expr} {is js:List Nat} {h:FG} {hs:DV} (h1:VG X Z e is h) (h2:Mu X Z es js hs)
  (WA:(assignEach (e :: es) X.env).map (·.2)=assign e X.env :: (assignEach es X.env).map (·.2):=by rfl):Mu X Z (e :: es) (is ++ js) (F6 h hs):=.mk fun tm=>Af.weak (Ag (h1 tm) (h2 tm) WA) fun vs σ H Q ⟨ρ,O,ts,q,I,a,hh,k⟩=>by
 unfold F6 at hh
 split at hh
 · simp only [au] at a
   obtain ⟨v,r,rfl,a1,a2⟩:=a
   refine ⟨v,r,rfl,ρ,O,_,_,I,a1,hh,fun ρ' hρ O' σ' I' ro eo l e=>⟨ρ',O',_,q,I',a2.bh fun b hb=>?_,hρ,fun ρ2 h2 O2 σ2 I2 WB WC l2 e2=>k ρ2 h2 O2 σ2 I2 (fun a z=>ro a (WB a z)) (fun j hj=>?_) (l2.trans l) fun j hj=>?_⟩⟩
   · rcases gD.mp hb with z | z
     · exact iU _ (ro b z)
     · exact iR _ z
   · rw [gD,not_or] at hj
     exact (WC j hj.2).trans (eo j hj.1)
   · rw [gD,not_or] at hj
     exact (e2 j hj.2).trans (e j hj.1)
 · exact hh.elim
theorem gd {es:List Expr} {k:Nat} {is:List Nat} {h:DV} {n:Nat} {pos:Pos} (hc:X.calm=true) (hh:Mu X Z es is h)
  (hn:(assignEach es X.env).length=n:=by rfl) (C_:(assignEach es X.env).findIdx? (·.1)=none:=by rfl):VG X Z (.Tuple es k pos) is (Mv n h):=.mk fun tm=>PG.weak (G9 hc (hh tm) hn C_) fun v σ H Q ⟨ρ,O,t,q,I,a,h',kk⟩=>by
 unfold Mv at h'
 split at h'
 · simp only [At] at a
   obtain ⟨p,vs,rfl,s,a⟩:=a
   exact ⟨p,vs,rfl,s,a.length.trans h'.1,ρ,O,_,q,I,a,h'.2,kk⟩
 · exact h'.elim
def Sk (f:FE) (h:FG):FS:=fun d ρ=>f ρ fun t=>h t ρ d.nx
theorem Ia {tg e:Expr} {f:FE} {is:List Nat} {h:FG} {pos:Pos} (he:VE X Z e f) (hg:VG X Z tg is h) (hs:swapsWithSole [tg] e pos.line X.env=pure false:=by rfl) (hw:swappedStores [tg] e X.env=pure none:=by rfl)
  (h1:(assignEach [tg] X.env).map (·.2)=[assign tg X.env]:=by rfl):VS X Z (.Assign [tg] e pos) (Sk f h):=.mk fun tm=>PS.weak (Ah (he tm) (hg tm) hs hw h1) fun D σ H ⟨ρ,O,d,I,q,F⟩ =>
 ⟨ρ,O,_,I,q,fun t ht v H' s a=>⟨ρ,O,t,_,I.same s,a,ht,fun ρ' hρ O' σ' I' _ _ _ _=>F.nx O' ρ' σ' H' I' hρ⟩⟩
def i8 (ts:List T) (h:FG) (g:FS):FS:=fun d ρ=>∃ Pv:Nat→En→Prop,Pv 0 ρ∧(∀ (i:Nat) t ρ',ts[i]?=some t→Pv i ρ'→h t ρ' fun ρ2=>g { nx:=Pv (i+1),ct:=Pv (i+1),bk:=d.nx,rt:=d.rt } ρ2)∧∀ ρ',Pv ts.length ρ'→d.nx ρ'
def Sl (f:FI) (h:FG) (g:FS):FS:=fun d ρ=>f ρ fun ts=>i8 ts h g d ρ
theorem cU {iter:Expr} {body:List Stmt} {f:FI} {is:List Nat} {h:FG} {g:FS} {pos:Pos} (hp:PassesOwn (model X.prog X.w) X.A X.env X.xe) (hc:X.calm=true) (hi:VI X Z tg iter f) (hg:VG X Z tg is h) (hb:lF X Z body g)
  (hs:∀ x,foldedSetIterable iter X.env x=pure x:=by intro _; rfl):VS X Z (.For tg iter body [] pos) (Sl f h g):=by
 refine .mk fun tm pins s σ H D I0 hw=>?_
 obtain ⟨ρ,O,d,I,q,F⟩:=hw
 refine Ha (wi:=lI X Z tm f) (g:=fun v σ H Q=>∃ bH,lG X Z (bH ++ tm) is h v σ H Q) (tb:=fun D σ H=>∃ bH,lS X Z (bH ++ tm) g D σ H) hp hc (hi tm) (fun pins s σ H v u Q I r ⟨bH,z⟩=>hg (bH ++ tm) pins s σ H v u Q I r z) (fun pins s σ H D I ⟨bH,z⟩=>hb (bH ++ tm) pins s σ H D I z) hs pins s σ H D I0 ?_
 refine ⟨ρ,O,_,I,q,fun ts fW J H' bH s a wk=>?_⟩
 obtain ⟨Pv,p0,step,fin⟩:=fW
 have J0:aq X.K Z (bH ++ tm) O ρ σ H':=(I.same s).sL fun p hp=>by
  rcases gD.mp hp with z | z
  · exact a p z
  · exact (I.same s).oA p z
 refine ⟨fun i m σ H=>m=ts.length - i∧i≤ts.length∧∃ ρ O,aq X.K Z (bH ++ tm) O ρ σ H∧Pv i ρ,⟨ts.length,by simp,ia _,ρ,O,J0,p0⟩,?_⟩
 rintro i m σ1 H1 ⟨rfl,hi,ρ1,O1,I1,p1⟩
 obtain ⟨w1,w2,w3⟩:=wk H1 (av Z O1) I1.KO (fun p hp=>I1.oA p (iU _ hp)) i
 have un:∀ {O:List (Option Addr)} {ρ:En} {σ:St} {H:Hp},aq X.K Z (bH ++ tm) O ρ σ H→aq X.K Z tm O ρ σ H:=fun I=>I.sL fun p hp=>I.oA p (iR _ hp)
 by_cases fz:i < ts.length
 · refine .inr ⟨w1 fz,fun σ' H'=>∃ ρ O,aq X.K Z (bH ++ tm) O ρ σ' H'∧Pv (i+1) ρ,fun σ' H' ⟨ρ',O',I',p'⟩=>⟨ts.length - (i+1),by omega,rfl,fz,ρ',O',I',p'⟩,fun x H2 y=>?_⟩
   have e:ts[i]?=some ts[i]:=by simp [fz]
   obtain ⟨s2,a2⟩:=w3 ts[i] e x H2 y
   refine ⟨bH,ρ1,O1,ts[i],_,I1.same s2,a2,step i _ ρ1 e p1,fun ρ2 h2 O2 σ2 I2 _ _ _ _=>⟨bH,ρ2,O2,_,I2,h2,?_⟩⟩
   exact ⟨fun O ρ σ H I p=>⟨ρ,O,I,p⟩,fun O ρ σ H r v z p=>F.rt O ρ σ H r v z.sL p,fun O ρ σ H I p=>F.nx O ρ σ H (un I) p,fun O ρ σ H I p=>⟨ρ,O,I,p⟩⟩
 · have e:i=ts.length:=by omega
   subst e
   exact .inl ⟨w2 (rfl),F.nx O1 ρ1 σ1 H1 (un I1) (fin ρ1 p1)⟩
end
theorem dy (O:List (Option Addr)) (n:Nat):roots (O ++ List.replicate n none)=roots O:=by
 unfold roots
 rw [List.filterMap_append]
 have:(List.replicate n (none:Option Addr)).filterMap id=[]:=by
  induction n with
  | zero=>rfl
  | succ n ih=>rw [Lc,lx]; exact ih
 rw [this,CY]
theorem aq.longer {K:PySem.W.Frag} {Z:Zc} {tm:List (T×V)} {O:List (Option Addr)} {ρ:En} {σ:St} {H:Hp} (I:aq K Z tm O ρ σ H) (n:Nat) {τ:St} (hτ:τ.length=n) :
  aq K Z tm (O ++ List.replicate n none) (ρ ++ List.replicate n none) (σ ++ τ) H:=by
 have ea:av Z (O ++ List.replicate n none)=av Z O:=by unfold av; rw [dy]
 refine ⟨by simp [I.lσ,hτ],by simp [I.lO],fun i e h=>?_,by rw [dy]; exact I.nd,fun a h=>I.own a (by rw [dy] at h; exact h),fun p hp=>?_,I.ox,I.keep,fun p hp=>by rw [ea]; exact I.oA p hp⟩
 · rw [ea]
   by_cases hi:i < ρ.length
   · rw [qc hi] at h
     obtain ⟨o,s,h1,h2,h3⟩:=I.sl i e h
     exact ⟨o,s,by rw [qc (by rw [I.lO]; exact hi)]; exact h1,by rw [qc (by rw [I.lσ]; exact hi)]; exact h2,h3⟩
   · rw [wN (by omega),Fv] at h
     split at h
     · rename_i hl
       cases h
       refine ⟨none,τ[i - σ.length]'(by rw [I.lσ,hτ]; exact hl),?_,?_,rfl⟩
       · rw [wN (by rw [I.lO]; omega),Fv,if_pos (by rw [I.lO]; exact hl)]
       · rw [wN (by rw [I.lσ]; omega)]; simp
     · cases h
 · have:=I.par p hp
   have hl:=(h9.mp this).1
   rw [qc hl]; exact this
theorem aq.Ib {K:PySem.W.Frag} {Z:Zc} {tm:List (T×V)} {O:List (Option Addr)} {ρ:En} {σ:St} {H:Hp} {a:Addr} {u o:HO} (I:aq K (Z.ex a) tm O ρ σ H) (hu:H a=some u) (hm:sD u=true) (h0:Z.H0 a=none):aq K (Z.ex a) tm O ρ σ (upd H a o):=by
 have DG:a∈av (Z.ex a) O:=iR _ eW
 have nr:∀ b∈roots O,b≠a:=fun b hb e=>(I.own b hb).2.1 (by rw [e]; exact eW)
 refine ⟨I.lσ,I.lO,fun i e h=>?_,I.nd,fun b hb=>?_,I.par,fun b hb=>?_,fun b o' e n=>?_,fun p hp=>(I.oA p hp).wrote DG hu hm⟩
 · obtain ⟨o',s,h1,h2,h3⟩:=I.sl i e h
   refine ⟨o',s,h1,h2,h3.map (fun _ _ q=>q.wrote DG hu hm) fun b t e q=>?_⟩
   subst e
   exact q.map (aP (nr b (aH.mpr (jO h1)))) fun _ _ z=>z.wrote DG hu hm
 · obtain ⟨q1,q2,v,e,m⟩:=I.own b hb
   exact ⟨q1,q2,v,by rw [aP (nr b hb)]; exact e,m⟩
 · by_cases e:b=a
   · subst e; rw [aX]; simp
   · rw [aP e]; exact I.ox b hb
 · have:b≠a:=fun e'=>by
    subst e'
    have e2:Z.H0 b=some o':=e
    rw [h0] at e2; cases e2
   rw [aP this]; exact I.keep b o' e n
def cP (h:FG) (fc:FB) (fe:FE) (ρ:En):List T→(List T→Prop)→Prop
 | [],Q=>Q []
 | t :: ts,Q=>h t ρ fun ρ2=>fc ρ2 fun b=>if b=true then fe ρ2 fun u=>cP h fc fe ρ ts fun us=>Q (u :: us) else cP h fc fe ρ ts Q
def xq (n:Nat) (is:List Nat) (f:FI) (h:FG) (fc:FB) (fe:FE):FP:=fun ρ Q=>(is.all fun j=>decide (ρ.length≤j))=true∧f ρ fun ts=>ts.length≤sizeLine∧cP h fc fe (ρ ++ List.replicate n none) ts fun us=>Q (.fr (.lst us))
def Mw (X:Cx) (Z:Zc) (ifs:List Expr) (f:FB):Prop:=Bx fun tm=>CK X ifs (lB X Z tm f)
instance {X:Cx} {Z:Zc} {ifs:List Expr} {f:FB}:CoeFun (Mw X Z ifs f) fun _=>∀ tm,CK X ifs (lB X Z tm f):=⟨fun h=>Bx.h h⟩
def AV:FB:=fun _ Q=>Q true
theorem CK.weak {X:Cx} {e:List Expr} {t t':TT} (h:CK X e t) (hw:∀ σ H Q,t' σ H Q→t σ H Q):CK X e t':=fun pins s σ H Q I q=>h pins s σ H Q I (hw _ _ _ q)
section
variable {X:Cx} {Z:Zc}
theorem cC:Mw X Z [] AV:=.mk fun tm=>CK.weak Dx fun σ H Q ⟨ρ,O,q,I,h,k⟩=>k true h H (aK.refl H)
def cG (X:Cx) (Z:Zc) (tm:List (T×V)) (is:List Nat) (h:FG):TG:=fun v σ H Q=>∃ D bH,lG X (Z.ex D) (bH ++ tm) is h v σ H Q
def cB (X:Cx) (Z:Zc) (tm:List (T×V)) (f:FB):TT:=fun σ H Q=>∃ D bH,lB X (Z.ex D) (bH ++ tm) f σ H Q
def cE (X:Cx) (Z:Zc) (tm:List (T×V)) (f:FE):TE:=fun σ H Q=>∃ D bH,lE X (Z.ex D) (bH ++ tm) f σ H Q
theorem Ic {K:PySem.W.Frag} {Z:Zc} {tm bH:List (T×V)} {n:Nat} {O:List (Option Addr)} {ρ:En} {σ:St} {H1:Hp} {D:Addr} {J:It} {ts:List T} {h:FG} {fc:FB} {fe:FE} {is:List Nat} {q:Rt→Prop} {Q:VK} (X:Cx) (hK:X.K=K)
  (I:aq K Z (bH ++ tm) O ρ σ H1) (hD:H1 D=none) (wk:Wk K J bH ts) (hz:ts.length≤sizeLine) (Qm:∀ j∈is,ρ.length≤j)
  (hw:cP h fc fe (ρ ++ List.replicate n none) ts fun us=>q (.fr (.lst us)))
  (k:∀ r,q r→∀ v H',aK H1 H'→gH K Z tm O ρ σ H' r v→Q v H') :
  sx J (cG X Z tm is h) (cB X Z tm fc) (cE X Z tm fe) n σ D (Q (.ref D)) H1:=by
 subst hK
 obtain ⟨n1,n2,n3⟩:=I.fresh hD
 refine ⟨fun i m acc H2=>m=ts.length - i∧i≤ts.length∧aK H1 H2∧H2 D=some (.lst acc)∧∃ us,au X.K H2 (av (Z.ex D) O) us acc∧acc.length≤i∧aq X.K (Z.ex D) (bH ++ tm) O ρ σ H2∧cP h fc fe (ρ ++ List.replicate n none) (ts.drop i) fun r=>q (.fr (.lst (us ++ r))),
  ⟨ts.length,by simp,ia _,aM hD,aX,[],au.nil,ia _,I.new hD rfl,by simpa using hw⟩,?_⟩
 rintro i m acc H2 ⟨rfl,hi,s2,DE,us,a2,hl,I2,w2⟩
 refine ⟨DE,?_⟩
 obtain ⟨w1,WD,w3⟩:=wk H2 (av (Z.ex D) O) I2.KO (fun p hp=>I2.oA p (iU _ hp)) i
 by_cases fz:i < ts.length
 · refine .inr ⟨w1 fz,by omega,fun x H3 y=>?_⟩
   have e:ts[i]?=some ts[i]:=by simp [fz]
   obtain ⟨s3,a3⟩:=w3 ts[i] e x H3 y
   rw [List.drop_eq_getElem_cons fz] at w2
   have I3:=(I2.same s3).longer n (τ:=List.replicate n none) (by simp)
   have ea:av (Z.ex D) (O ++ List.replicate n none)=av (Z.ex D) O:=by unfold av; rw [dy]
   refine ⟨D,bH,_,_,ts[i],_,I3,by rw [ea]; exact a3,w2,fun ρ4 WE O4 σ4 I4 Yy WG l4 e4=>⟨⟨?_,fun j v hj=>?_⟩,D,bH,ρ4,O4,_,I4,WE,fun b hb H5 s5=>?_⟩⟩
   · rw [l4]; simp
   · have Mx:=(h9.mp hj).1
     have:j∉is:=fun z=>by have:=Qm j z; have:=I.lσ; omega
     rw [e4 j this,qc Mx]; exact hj
   · have S5:=(s2.trans s3).trans s5
     have J5:=(I2.same s3).same s5
     cases b with
     | true =>
       rw [if_pos rfl] at hb
       refine Mb ⟨D,bH,ρ4,O4,_,I4.same s5,hb,fun u hu y H6 s6 a6=>?_⟩
       have Sm:=s6 _ _ (s5 _ _ (s3 _ _ DE))
       refine ⟨Sm,ts.length - (i+1),by omega,rfl,fz,fun b o e=>?_,aX,us ++ [u],?_,by simp; omega,(J5.same s6).Ib Sm rfl n3,?_⟩
       · rw [aP (bg e hD)]; exact s6 _ _ (S5 _ _ e)
       · have DG:D∈av (Z.ex D) O:=iR _ eW
         have WH:At X.K H6 (av (Z.ex D) O) u y:=a6.bh fun b hb=>by
          rcases gD.mp hb with z | z
          · obtain ⟨j,hj⟩:=PX.mp (aH.mp z)
            have Mx:=(h9.mp hj).1
            have nj:j∉is:=fun z=>by have:=Qm j z; have:=I.lO; omega
            have:=WG j nj
            rw [qc Mx,hj] at this
            exact iU _ (aH.mpr (jO this))
          · exact iR _ z
         exact au.wrote DG Sm rfl ((((a2.same s3).same s5).same s6).append (au.cons WH au.nil))
       · have e2:∀ r,(us ++ [u]) ++ r=us ++ (u :: r):=fun r=>by simp
         simp only [e2]
         exact hu
     | false =>
       rw [if_neg iS] at hb
       exact Ma ⟨ts.length - (i+1),by omega,rfl,fz,S5,s5 _ _ (s3 _ _ DE),us,(a2.same s3).same s5,by omega,J5,hb⟩
 · have e:i=ts.length:=by omega
   subst e
   refine .inl ⟨WD (rfl),?_⟩
   rw [List.drop_length] at w2
   simp only [cP,CY] at w2
   refine k _ w2 _ H2 s2 ⟨D,rfl,I2.sL fun p hp=>I2.oA p (iR _ hp),⟨acc,DE,a2⟩,n3,n2⟩
theorem xr {tm:List (T×V)} {n:Nat} {is:List Nat} {f:FI} {h:FG} {fc:FB} {fe:FE} {σ:St} {H:Hp} {Q:VK} (hq:lP X Z tm (xq n is f h fc fe) σ H Q):AD n (lI X Z tm f) (cG X Z tm is h) (cB X Z tm fc) (cE X Z tm fe) σ H Q:=by
 obtain ⟨ρ,O,q,I,⟨Qm,hf⟩,k⟩:=hq
 refine ⟨ρ,O,_,I,hf,fun ts fW J H' bH s a wk D hD=>?_⟩
 have I':aq X.K Z (bH ++ tm) O ρ σ H':=(I.same s).sL fun p hp=>by
  rcases gD.mp hp with z | z
  · exact a p z
  · exact (I.same s).oA p z
 refine Ic X rfl I' hD wk fW.1 (fun j hj=>?_) fW.2 fun r hr v H2 s2 z=>k r hr v H2 (s.trans s2) z
 have:=uN.mp Qm j hj
 exact of_decide_eq_true this
variable {ts:List Str} {sc:Scope} {elt iter tg:Expr} {ifs:List Expr} {pos:Pos} {f:FI} {h:FG} {fc:FB} {fe:FE} {is:List Nat}
theorem dM (hc:X.calm=true) (hS:iD X.N ts X.env.scope sc=true) (hi:VI X Z tg iter f) (hg:∀ D cl C fp s H,VG (bf X ts sc cl C fp s H) (Z.ex D) tg is h) (ht:∀ D cl C fp s H,Mw (bf X ts sc cl C fp s H) (Z.ex D) ifs fc)
  (he:∀ D cl C fp s H,VE (bf X ts sc cl C fp s H) (Z.ex D) elt fe) (hs:∀ x,foldedSetIterable iter X.env x=pure x:=by intro _; rfl):VP X Z (.ListComp elt [⟨tg,iter,ifs,0⟩] sc pos) (xq ts.length is f h fc fe):=.mk fun tm =>
 PE.weak (Dz hc hS (hi tm) (fun cl C fp s H pins s' σ H' v u Q I r ⟨D,bH,z⟩=>hg D cl C fp s H (bH ++ tm) pins s' σ H' v u Q I r z) (fun cl C fp s H pins s' σ H' Q I ⟨D,bH,z⟩=>ht D cl C fp s H (bH ++ tm) pins s' σ H' Q I z)
  (fun cl C fp s H pins s' σ H' Q I ⟨D,bH,z⟩=>he D cl C fp s H (bH ++ tm) pins s' σ H' Q I z) hs) fun σ H Q hq=>xr hq
theorem sM {i:Nat} {y:Str} {py sC:Pos} (hN:X.N.Nodup) (hy:X.N[i]?=some y) (hx:Loc X.env.scope y) (hc:X.calm=true) (hS:iD X.N ts X.env.scope sc=true) (hi:VI X Z tg iter f) (hg:∀ D cl C fp s H,VG (bf X ts sc cl C fp s H) (Z.ex D) tg is h)
  (ht:∀ D cl C fp s H,Mw (bf X ts sc cl C fp s H) (Z.ex D) ifs fc) (he:∀ D cl C fp s H,VE (bf X ts sc cl C fp s H) (Z.ex D) elt fe)
  (Mg:swapsWith (.ListComp elt [⟨tg,iter,ifs,0⟩] sc pos) (some (.Name y py)) sC.line X.env=pure true)
  (hs:∀ x,foldedSetIterable iter X.env x=pure x) (hf:X.fn y=true∨X.env.scope.names.lookup y=some .local) (tm:List (T×V)) :
  PS X (.Assign [.Name y py] (.ListComp elt [⟨tg,iter,ifs,0⟩] sc pos) sC) (Dd (lP X Z tm (xq ts.length is f h fc fe)) (gu i)) :=
 PS.weak (DB hN hy hx hc hS (hi tm) (fun cl C fp s H pins s' σ H' v u Q I r ⟨D,bH,z⟩=>hg D cl C fp s H (bH ++ tm) pins s' σ H' v u Q I r z) (fun cl C fp s H pins s' σ H' Q I ⟨D,bH,z⟩=>ht D cl C fp s H (bH ++ tm) pins s' σ H' Q I z)
  (fun cl C fp s H pins s' σ H' Q I ⟨D,bH,z⟩=>he D cl C fp s H (bH ++ tm) pins s' σ H' Q I z) Mg hs hf) fun D σ H hq=>xr hq
theorem qu {i:Nat} {y:Str} {py sC:Pos} (hN:X.N.Nodup) (hy:X.N[i]?=some y) (hx:Loc X.env.scope y) (hc:X.calm=true) (hS:iD X.N ts X.env.scope sc=true) (hi:VI X Z tg iter f) (hg:∀ D cl C fp s H,VG (bf X ts sc cl C fp s H) (Z.ex D) tg is h)
  (ht:∀ D cl C fp s H,Mw (bf X ts sc cl C fp s H) (Z.ex D) ifs fc) (he:∀ D cl C fp s H,VE (bf X ts sc cl C fp s H) (Z.ex D) elt fe) (hp:aT Z i)
  (Mg:swapsWith (.ListComp elt [⟨tg,iter,ifs,0⟩] sc pos) (some (.Name y py)) sC.line X.env=pure true:=by rfl)
  (hs:∀ x,foldedSetIterable iter X.env x=pure x:=by intro _; rfl) (hf:X.fn y=true∨X.env.scope.names.lookup y=some .local:=by first | exact .inl rfl | exact .inr rfl | assumption) :
  VS X Z (.Assign [.Name y py] (.ListComp elt [⟨tg,iter,ifs,0⟩] sc pos) sC) (Ms i (fX (xq ts.length is f h fc fe))):=.mk fun tm =>
 PS.weak (sM hN hy hx hc hS hi hg ht he Mg hs hf tm) fun D σ H ⟨ρ,O,d,I,q,F⟩=>⟨ρ,O,_,I,q,fun r hr v H' s z=>F.nx _ _ _ H' (z.env.put hp z.at) hr⟩
theorem fG {h:FG} {fc:FB} {fe:FE} {ρ:En} {ts:List T} {Q:List T→Prop} (p:T→Bool) (u:T→T) (step:∀ t∈ts,∀ k:List T→Prop,∀ r:List T→Prop,(if p t=true then r [u t] else r [])→h t ρ fun ρ2=>fc ρ2 fun b=>if b=true then fe ρ2 fun x=>r [x] else r [])
  (hq:Q ((ts.filter p).map u)):cP h fc fe ρ ts Q:=by
 induction ts generalizing Q with
 | nil=>exact hq
 | cons t ts ih =>
   have st:=step t eW (fun _=>True) (fun l=>match l with
    | [x]=>cP h fc fe ρ ts fun us=>Q (x :: us)
    | _=>cP h fc fe ρ ts Q)
   have rest:∀ {Q':List T→Prop},Q' ((ts.filter p).map u)→cP h fc fe ρ ts Q':=fun hq=>ih (fun t ht=>step t (g9 _ ht)) hq
   simp only [cP]
   refine st ?_
   by_cases hp:p t=true
   · rw [if_pos hp]
     refine rest ?_
     rw [List.filter_cons_of_pos hp] at hq
     exact hq
   · rw [if_neg hp]
     refine rest ?_
     rw [List.filter_cons_of_neg hp] at hq
     exact hq
end
def e_ (K:PySem.W.Frag) (H:Hp) (A:List Addr):List Bool→List Addr→List T→List V→Prop
 | [],as,ts,vs=>as=[]∧ts=[]∧vs=[]
 | false :: fs,as,ts,vs=>∃ t iJ v iT,ts=t :: iJ∧vs=v :: iT∧At K H A t v∧e_ K H A fs as iJ iT
 | true :: fs,as,ts,vs=>∃ a pH t iJ iT,as=a :: pH∧ts=t :: iJ∧vs = .ref a :: iT∧cq K H A a t∧e_ K H A fs pH iJ iT
def Sn (K:PySem.W.Frag) (H:Hp) (as Ox:List Addr) (H':Hp) (us:List T):Rt→V→Prop
 | .vw t,v=>At K H' (as ++ Ox) t v∧Paired (fun a u=>cq K H' (as ++ Ox) a u) as us
 | .fr t,v=>∃ b,v = .ref b∧H b=none∧b∉as∧cq K H' (b :: (as ++ Ox)) b t∧Paired (fun a u=>cq K H' (b :: (as ++ Ox)) a u) as us
abbrev GT:=List T→(List T→Rt→Prop)→Prop
def qv (K:PySem.W.Frag) (fs:List Bool) (G:GT):Sp:=fun vs H Q _=>∃ ts as Ox q,as.Nodup∧(∀ a∈as,a∉Ox)∧(∀ a∈Ox,H a≠none)∧e_ K H (as ++ Ox) fs as ts vs∧G ts q ∧
 ∀ us r,q us r→∀ v H',(∀ b o,H b=some o→b∉as→H' b=some o)→Sn K H as Ox H' us r v→Q v H'
def ro:List Bool→List Addr→List (Option Addr)
 | [],_=>[]
 | false :: fs,as=>none :: ro fs as
 | true :: fs,a :: as=>some a :: ro fs as
 | true :: fs,[]=>none :: ro fs []
def pz:List Bool→List Addr→Nat→List (Nat×Addr)
 | [],_,_=>[]
 | false :: fs,as,k=>pz fs as (k+1)
 | true :: fs,a :: as,k=>(k,a) :: pz fs as (k+1)
 | true :: fs,[],k=>pz fs [] (k+1)
def vh:List Bool→List T→En
 | f :: fs,t :: ts=>some (t,f) :: vh fs ts
 | _,_=>[]
def oC:List Bool→En→List T
 | [],_=>[]
 | false :: fs,ρ=>oC fs ρ.tail
 | true :: fs,some (t,_) :: ρ=>t :: oC fs ρ
 | true :: fs,ρ=>.bp :: oC fs ρ.tail
section
variable {K:PySem.W.Frag} {H:Hp} {A:List Addr}
theorem i9:∀ {fs:List Bool} {as:List Addr} {ts:List T} {vs:List V},e_ K H A fs as ts vs→ts.length=fs.length∧vs.length=fs.length∧(ro fs as).length=fs.length∧(vh fs ts).length=fs.length∧roots (ro fs as)=as
 | [],as,ts,vs,h=>by obtain ⟨rfl,rfl,rfl⟩:=h; exact ⟨rfl,rfl,rfl,rfl,rfl⟩
 | false :: fs,as,ts,vs,h=>by
   obtain ⟨t,iJ,v,iT,rfl,rfl,_,h⟩:=h
   obtain ⟨h1,h2,h3,h4,h5⟩:=i9 h
   exact ⟨by simp [h1],by simp [h2],by simp [ro,h3],by simp [vh,h4],by simpa [ro,roots] using h5⟩
 | true :: fs,as,ts,vs,h=>by
   obtain ⟨a,pH,t,iJ,iT,rfl,rfl,rfl,_,h⟩:=h
   obtain ⟨h1,h2,h3,h4,h5⟩:=i9 h
   refine ⟨by simp [h1],by simp [h2],by simp [ro,h3],by simp [vh,h4],?_⟩
   simp only [ro,roots,lx,id] at h5 ⊢
   rw [h5]
theorem mj:∀ {fs:List Bool} {as:List Addr} {ts:List T} {vs:List V},e_ K H A fs as ts vs→∀ (i:Nat) e,(vh fs ts)[i]?=some e→∃ o s,(ro fs as)[i]?=some o∧(vs.map some)[i]?=some s∧ma K H A e o s
 | [],as,ts,vs,h,i,e,he=>by simp [vh] at he
 | false :: fs,as,ts,vs,h,i,e,he=>by
   obtain ⟨t,iJ,v,iT,rfl,rfl,a,h⟩:=h
   cases i with
   | zero=>simp only [vh,K',Option.some.injEq] at he; subst he; exact ⟨none,some v,rfl,rfl,rfl,v,rfl,a⟩
   | succ i=>exact mj h i e (by simpa [vh] using he)
 | true :: fs,as,ts,vs,h,i,e,he=>by
   obtain ⟨a,pH,t,iJ,iT,rfl,rfl,rfl,r,h⟩:=h
   cases i with
   | zero=>simp only [vh,K',Option.some.injEq] at he; subst he; exact ⟨some a,some (.ref a),rfl,rfl,a,rfl,rfl,r⟩
   | succ i=>exact mj h i e (by simpa [vh] using he)
theorem j6:∀ {fs:List Bool} {as:List Addr} {ts:List T} {vs:List V},e_ K H A fs as ts vs→∀ a∈as,∃ t,cq K H A a t
 | [],as,ts,vs,h,a,ha=>by obtain ⟨rfl,rfl,rfl⟩:=h; cases ha
 | false :: fs,as,ts,vs,h,a,ha=>by obtain ⟨t,iJ,v,iT,rfl,rfl,_,h⟩:=h; exact j6 h a ha
 | true :: fs,as,ts,vs,h,a,ha=>by
   obtain ⟨b,pH,t,iJ,iT,rfl,rfl,rfl,r,h⟩:=h
   rcases cn.mp ha with z | z
   · subst z; exact ⟨t,r⟩
   · exact j6 h a z
theorem AW:∀ {fs:List Bool} {as:List Addr} {ts:List T} {vs:List V} (k:Nat),e_ K H A fs as ts vs→(pz fs as k).map (·.2)=as∧∀ p∈pz fs as k,k≤p.1∧(ro fs as)[p.1 - k]?=some (some p.2)
 | [],as,ts,vs,k,h=>by obtain ⟨rfl,rfl,rfl⟩:=h; exact ⟨rfl,fun _ z=>nomatch z⟩
 | false :: fs,as,ts,vs,k,h=>by
   obtain ⟨t,iJ,v,iT,rfl,rfl,_,h⟩:=h
   obtain ⟨h1,h2⟩:=AW (k+1) h
   refine ⟨h1,fun p hp=>?_⟩
   obtain ⟨l,e⟩:=h2 p hp
   refine ⟨by omega,?_⟩
   have:p.1 - k=(p.1 - (k+1))+1:=by omega
   rw [this]
   simpa [ro] using e
 | true :: fs,as,ts,vs,k,h=>by
   obtain ⟨a,pH,t,iJ,iT,rfl,rfl,rfl,_,h⟩:=h
   obtain ⟨h1,h2⟩:=AW (k+1) h
   refine ⟨by simp [pz,h1],fun p hp=>?_⟩
   rcases cn.mp hp with z | z
   · subst z; exact ⟨dH _,by simp [ro]⟩
   · obtain ⟨l,e⟩:=h2 p z
     refine ⟨by omega,?_⟩
     have:p.1 - k=(p.1 - (k+1))+1:=by omega
     rw [this]
     simpa [ro] using e
theorem qw {R:Addr→T→Prop} {ρ:En}:∀ {fs:List Bool} {as:List Addr} {ts:List T} {vs:List V} (k:Nat),e_ K H A fs as ts vs→(∀ p∈pz fs as k,∃ t,ρ[p.1]?=some (some (t,true))∧R p.2 t)→Paired R as (oC fs (ρ.drop k))
 | [],as,ts,vs,k,h,_=>by obtain ⟨rfl,rfl,rfl⟩:=h; exact .nil
 | false :: fs,as,ts,vs,k,h,q=>by
   obtain ⟨t,iJ,v,iT,rfl,rfl,_,h⟩:=h
   have:=qw (k+1) h q
   simp only [oC,List.tail_drop]
   exact this
 | true :: fs,as,ts,vs,k,h,q=>by
   obtain ⟨a,pH,t,iJ,iT,rfl,rfl,rfl,_,h⟩:=h
   have:=qw (ρ:=ρ) (k+1) h fun p hp=>q p (g9 _ hp)
   obtain ⟨u,e,r⟩:=q (k,a) eW
   have hk:k < ρ.length:=(h9.mp e).1
   have e2:ρ[k]=some (u,true):=by rw [n9 hk] at e; exact Option.some.inj e
   rw [List.drop_eq_getElem_cons hk,e2]
   exact .cons r this
end
section
variable {P:Program} {w:World} {K:PySem.W.Frag} {mg:Str→Option Value} {base:Heap}
theorem Sq {x qual:Str} {st:Stmt} {f:Addr} {fd:FuncData} {N ps:List Str} {k:Nat} {fs:List Bool} {G:GT} (F:Dv K x qual st f fd) (S:aE N ps (ak st)) (Sr:fs.length=ps.length)
  (lY:∀ (bZ:Value) (A:Around) (outer:List Env) (s:Shared) (H:Hp) (E:XK) (as Ox:List Addr),bP k (A.deeper (envOfC qual (ak st) s.heap.objs.size f bZ))→∀ ts q,ts.length=fs.length→G ts q →
    ∃ g,lF (ib jN P w K mg base N qual (ak st) f bZ A outer s H E).r0 ⟨H,pz fs as 0,Ox⟩ (c8 st) g∧g { nx:=fun ρ=>q (oC fs ρ) (.vw .bp),rt:=fun ρ r=>q (oC fs ρ) r } (vh fs ts ++ List.replicate (N.length - ts.length) none)) :
  dX P w K mg base jN (k+1) f fd ps (qv K fs G):=by
 refine F.ok S (fun vs H Q E h=>?_) (fun bZ A outer s H vs Q E hr h=>?_)
 · obtain ⟨ts,as,Ox,q,_,_,_,ha,_⟩:=h
   rw [← Sr]; exact (i9 ha).2.1
 · obtain ⟨ts,as,Ox,q,nd,nx,ox,ha,hG,kk⟩:=h
   obtain ⟨l1,l2,l3,l4,l5⟩:=i9 ha
   obtain ⟨p1,p2⟩:=AW 0 ha
   obtain ⟨g,hg,hq⟩:=lY bZ A outer s H E as Ox hr ts q l1 hG
   have ea:av ⟨H,pz fs as 0,Ox⟩ (ro fs as ++ List.replicate (N.length - ts.length) none)=as ++ Ox:=by unfold av; rw [dy,l5]
   have WI:∀ H0 P (O:List (Option Addr)),av ⟨H0,P,Ox⟩ O=roots O ++ Ox:=fun _ _ _=>rfl
   have I0:aq K ⟨H,pz fs as 0,Ox⟩ [] (ro fs as ++ List.replicate (N.length - ts.length) none) (vh fs ts ++ List.replicate (N.length - ts.length) none) (start N vs) H:=by
    refine ⟨?_,?_,fun i e he=>?_,by rw [dy,l5]; exact nd,fun a h=>?_,fun p hp=>?_,ox,fun b o e _=>e,fun p hp=>nomatch hp⟩
    · unfold L2.start; simp [l2,l4,l1]
    · simp [l3,l4]
    · rw [ea]
      by_cases hi:i < fs.length
      · rw [qc (by rw [l4]; exact hi)] at he
        obtain ⟨o,s,h1,h2,h3⟩:=mj ha i e he
        refine ⟨o,s,by rw [qc (by rw [l3]; exact hi)]; exact h1,?_,h3⟩
        unfold L2.start
        rw [qc (by rw [bU,l2]; exact hi)]; exact h2
      · rw [List.getElem?_append_right (by omega),Fv] at he
        split at he
        · rename_i hl
          cases he
          refine ⟨none,none,?_,?_,rfl⟩
          · rw [wN (by omega),Fv,if_pos (by rw [l3]; rw [l4] at hl; exact hl)]
          · unfold L2.start
            rw [wN (by rw [bU]; omega),Fv,bU,if_pos (by rw [l2]; rw [l4,l1] at hl; exact hl)]
        · cases he
    · rw [dy,l5] at h
      obtain ⟨t,r⟩:=j6 ha a h
      exact ⟨.inl (by show a∈(pz fs as 0).map (·.2); rw [p1]; exact h),nx a h,r.mut⟩
    · obtain ⟨_,e⟩:=p2 p hp
      rw [Nat.sub_zero] at e
      rw [qc (h9.mp e).1]; exact e
   have fin:∀ {O:List (Option Addr)} {ρ:En} {σ:St} {H':Hp} {Z':Zc},Z'.P=pz fs as 0→aq K Z' [] O ρ σ H'→Paired (fun a u=>cq K H' (av Z' O) a u) as (oC fs ρ):=fun {O ρ σ H' Z'} eP I=>by
    have:=qw (ρ:=ρ) (R:=fun a u=>cq K H' (av Z' O) a u) 0 ha fun p hp=>?_
    · rw [List.drop_zero] at this; exact this
    · have e:=I.par p (by rw [eP]; exact hp)
      have hl:=(h9.mp e).1
      have UT:p.1 < ρ.length:=by rw [← I.lO]; exact hl
      obtain ⟨o,s',h1,h2,h3⟩:=I.sl p.1 ρ[p.1] (by simp)
      rw [e] at h1
      cases h1
      cases q:ρ[p.1] with
      | none=>rw [q] at h3; cases h3
      | some tb =>
        obtain ⟨t,b⟩:=tb
        rw [q] at h3
        cases b with
        | false=>cases h3.1
        | true =>
          obtain ⟨a',e1,_,r⟩:=h3
          cases e1
          exact ⟨t,by rw [← q]; simp,r⟩
   have keep:∀ {O:List (Option Addr)} {ρ:En} {σ:St} {H':Hp} {Z':Zc},Z'.H0=H→Z'.P=pz fs as 0→aq K Z' [] O ρ σ H'→∀ b o,H b=some o→b∉as→H' b=some o:=fun e0 eP I b o e n=>I.keep b o (by rw [e0]; exact e) (by rw [eP,p1]; exact n)
   have sub:∀ {O:List (Option Addr)} {ρ:En} {σ:St} {H':Hp} {Z':Zc},Z'.P=pz fs as 0→aq K Z' [] O ρ σ H'→∀ a∈as,a∈roots O:=fun eP I a h=>by
    have:a∈(pz fs as 0).map (·.2):=by rw [p1]; exact h
    obtain ⟨p,hp,rfl⟩:=iV.mp this
    exact aH.mpr (jO (I.par p (by rw [eP]; exact hp)))
   refine ⟨_,hg [],_,_,_,I0,hq,⟨fun O ρ σ H' I h=>?_,fun O ρ σ H' r v z h=>?_,fun _ _ _ _ _ h=>h.elim,fun _ _ _ _ _ h=>h.elim⟩⟩
   · have sb:∀ a∈as ++ Ox,a∈av ⟨H,pz fs as 0,Ox⟩ O:=fun a h=>by
      rcases gD.mp h with h | h
      · exact iU _ (sub rfl I a h)
      · exact iR _ h
     exact kk _ _ h .bp H' (keep rfl rfl I) ⟨iF,Paired.lU (fin rfl I) fun _ _ q=>q.bh sb⟩
   · cases r with
     | vw t =>
       obtain ⟨I,a⟩:=z
       have sb:∀ a∈as ++ Ox,a∈av ⟨H,pz fs as 0,Ox⟩ O:=fun a h=>by
        rcases gD.mp h with h | h
        · exact iU _ (sub rfl I a h)
        · exact iR _ h
       exact kk _ _ h v H' (keep rfl rfl I) ⟨a.bh sb,Paired.lU (fin rfl I) fun _ _ q=>q.bh sb⟩
     | fr t =>
       obtain ⟨b,rfl,I,hR,h0,hx⟩:=z
       have sb:∀ a∈b :: (as ++ Ox),a∈av (Zc.ex ⟨H,pz fs as 0,Ox⟩ b) O:=fun a h=>by
        rcases cn.mp h with h | h
        · rw [h]; exact iR _ eW
        · rcases gD.mp h with h | h
          · exact iU _ (sub rfl I a h)
          · exact iR _ (g9 _ h)
       exact kk _ _ h (.ref b) H' (keep rfl rfl I) ⟨b,rfl,h0,fun hb=>(I.own b (sub rfl I b hb)).2.1 eW,hR.bh sb,Paired.lU (fin rfl I) fun _ _ q=>q.bh sb⟩
end
def bR (K:PySem.W.Frag) (n:Nat) (G:List T→(Rt→Prop)→Prop):Sp:=qv K (List.replicate n false) fun ts q=>G ts (q [])
section
variable {K:PySem.W.Frag} {H:Hp} {A:List Addr}
theorem gf:∀ {n:Nat} {ts:List T} {vs:List V},ts.length=n→au K H A ts vs→e_ K H A (List.replicate n false) [] ts vs
 | 0,ts,vs,l,h=>by
   have e:ts=[]:=PN.mp l
   subst e
   simp only [au] at h
   exact ⟨rfl,rfl,h⟩
 | n+1,ts,vs,l,h=>by
   cases ts with
   | nil=>simp at l
   | cons t ts =>
     simp only [au] at h
     obtain ⟨v,r,rfl,h1,h2⟩:=h
     exact ⟨t,ts,v,r,rfl,rfl,h1,gf (by simpa using l) h2⟩
end
theorem aq.F7 {K:PySem.W.Frag} {Z:Zc} {tm:List (T×V)} {O:List (Option Addr)} {ρ:En} {σ:St} {H H':Hp} (I:aq K Z tm O ρ σ H) {a:Addr} (h:H a=none) (s:aK H H') {u:HO} (hu:H' a=some u):aq K (Z.ex a) tm O ρ σ H':=by
 have J:=I.same s
 obtain ⟨n1,n2,n3⟩:=I.fresh h
 have mr:∀ b∈av (Z.ex a) O,b∈av Z O∨H b=none:=fun b hb=>(cY b hb).imp id fun e=>by rw [e]; exact h
 have fw:∀ {t:T} {v:V},At K H (av Z O) t v→At K H' (av (Z.ex a) O) t v:=fun q=>(q.more mr).same s
 refine ⟨J.lσ,J.lO,fun i e hi=>?_,J.nd,fun b hb=>?_,J.par,fun b hb=>?_,J.keep,fun p hp=>fw (I.oA p hp)⟩
 · obtain ⟨o,w,h1,h2,h3⟩:=I.sl i e hi
   refine ⟨o,w,h1,h2,h3.map (fun _ _ q=>fw q) fun b t eo q=>?_⟩
   exact cq.same (q.map rfl fun _ _ z=>z.more mr) s
 · obtain ⟨q1,q2,q3⟩:=J.own b hb
   refine ⟨q1,fun z=>?_,q3⟩
   rcases cn.mp z with z | z
   · exact n1 (by rw [← z]; exact iU _ hb)
   · exact q2 z
 · rcases cn.mp hb with z | z
   · rw [z,hu]; simp
   · exact J.ox b z
def Ie (n:Nat) (g:FA) (G:List T→(Rt→Prop)→Prop):FP:=fun ρ Q=>g ρ fun ts=>ts.length=n∧G ts Q
def Ig:Rt→Bool
 | .vw t=>jY t
 | .fr (.lst ts)=>oz ts
 | _=>false
def Ih (n:Nat) (g:FA) (G:List T→(Rt→Prop)→Prop):FP:=fun ρ Q=>g ρ fun ts=>ts.length=n∧G ts fun r=>Ig r=true∧Q r
section
variable {X:Cx} {Z:Zc} {k n:Nat} {f:Addr} {fd:FuncData} {ps:List Str} {G:List T→(Rt→Prop)→Prop} {x:Str} {p pos:Pos} {e:Expr} {es:List Expr} {g:FA}
theorem xt {tm:List (T×V)} {O:List (Option Addr)} {ρ:En} {σ:St} {H:Hp} {ts:List T} {vs:List V} {q:Rt→Prop} {Q:VK} (I:aq X.K Z tm O ρ σ H) (a:au X.K H (av Z O) ts vs) (hn:ts.length=n) (hG:G ts q)
  (k:∀ r,q r→∀ v H',aK H H'→gH X.K Z tm O ρ σ H' r v→Q v H'):bR X.K n G (vs ++ []) H Q E0:=by
 rw [CY]
 refine ⟨ts,[],av Z O,fun _ r=>q r,List.nodup_nil,fun _ z=>absurd z dU,I.KO,gf hn a,hG,fun us r hr v H' fr z=>?_⟩
 have s:aK H H':=fun b o e=>fr b o e dU
 cases r with
 | vw t=>exact k _ hr v H' s ⟨I.same s,z.1⟩
 | fr t =>
   obtain ⟨b,rfl,hb,_,hR,_⟩:=z
   obtain ⟨n1,n2,n3⟩:=I.fresh hb
   obtain ⟨u,eu,_⟩:=hR.mut
   refine k _ hr _ H' s ⟨b,rfl,I.F7 hb s eu,hR.bh fun c hc=>?_,n3,n2⟩
   rcases cY c hc with z | z
   · exact g9 _ z
   · rw [z]; exact eW
theorem aD (F:dX X.prog X.w X.K X.mg X.base jN k f fd ps (bR X.K n G)) (hr:bP k X.A) (hg:Gl X x) (hm:X.mg x=some (.ref f)) (hk:PySem.W.keepIn X.K (.ref f)=true) (hb:Binds X.K fd ps []) (ha:VA X Z (e :: es) g)
  (u4:(x == ("__debug__" : Str))=false:=by decide) (he:starEach (e :: es) X.env=(false,eval e X.env) :: starEach es X.env:=by rfl) (jU:(backTo pos (starEach es X.env)).any (·.1)=false:=by rfl) :
  VP X Z (.Call (.Name x p) (e :: es) [] pos) (Ie n g G):=.mk fun tm=>PE.weak (qg F hr hg hm hk hb .nil xg (ha tm) u4 he jU) fun σ H Q ⟨ρ,O,q,I,hf,k⟩ =>
 ⟨ρ,O,_,I,hf,fun ts fW vs H1 s1 a1=>xt (I.same s1) a1 fW.1 fW.2 fun r hr v H' s z=>k r hr v H' (s1.trans s) z⟩
theorem gL (F:dX X.prog X.w X.K X.mg X.base jN k f fd ps (bR X.K n G)) (hr:bP k X.A) (hg:Gl X x) (hm:X.mg x=some (.ref f)) (hk:PySem.W.keepIn X.K (.ref f)=true) (hb:Binds X.K fd ps []) (ha:FT X Z (e :: es) g)
  (u4:(x == ("__debug__" : Str))=false:=by decide) (he:starEach (e :: es) X.env=(false,eval e X.env) :: starEach es X.env:=by rfl) (jU:(backTo pos (starEach es X.env)).any (·.1)=false:=by rfl) :
  VP X Z (.Call (.Name x p) (e :: es) [] pos) (Ih n g G):=.mk fun tm=>PE.weak (qg F hr hg hm hk hb .nil xg (ha tm) u4 he jU) fun σ H Q ⟨ρ,O,q,I,hf,k⟩ =>
 ⟨ρ,O,_,I,hf,fun ts fW vs H1 s1 a1=>by
   show bR X.K n G (vs ++ []) H1 Q E0
   rw [CY]
   have J:=I.same s1
   have a2:au X.K H1 [] ts vs:=au.iff.mpr (Paired.lU a1 fun _ _ z=>z.bare)
   refine ⟨ts,[],[],fun _ r=>Ig r=true∧q r,List.nodup_nil,fun _ z=>absurd z dU,fun _ z=>absurd z dU,gf fW.1 a2,fW.2,fun us r ⟨hi,hr⟩ v H' fr z=>?_⟩
   have s:aK H1 H':=fun b o e=>fr b o e dU
   cases r with
   | vw t=>exact k _ hr v H' (s1.trans s) ⟨J.same s,At.jY hi z.1⟩
   | fr t =>
     obtain ⟨b,rfl,hb,_,hR,_⟩:=z
     obtain ⟨n1,n2,n3⟩:=J.fresh hb
     obtain ⟨u,eu,_⟩:=hR.mut
     cases t with
     | lst ts =>
       obtain ⟨ws,e1,e2⟩:=hR
       exact k _ hr _ H' (s1.trans s) ⟨b,rfl,J.F7 hb s eu,⟨ws,e1,au.jY hi e2⟩,n3,n2⟩
     | _=>exact absurd hi (by simp [Ig])⟩
end
def AM (K:PySem.W.Frag) (H:Hp) (A:List Addr) (O:List (Option Addr)) (ρ:En):List (Option Nat)→List T→List V→Prop
 | [],ts,vs=>ts=[]∧vs=[]
 | none :: ms,ts,vs=>∃ t iJ v iT,ts=t :: iJ∧vs=v :: iT∧At K H A t v∧AM K H A O ρ ms iJ iT
 | some k :: ms,ts,vs=>∃ a t iJ iT,ts=t :: iJ∧vs = .ref a :: iT∧ρ[k]?=some (some (t,true))∧O[k]?=some (some a)∧AM K H A O ρ ms iJ iT
def Vh (X:Cx) (Z:Zc) (tm:List (T×V)) (ms:List (Option Nat)) (f:FA):TA:=fun σ H Q=>∃ ρ O q,aq X.K Z tm O ρ σ H∧f ρ q∧∀ ts,q ts→∀ vs H',aK H H'→AM X.K H' (av Z O) O ρ ms ts vs→Q vs H'
def Ii (X:Cx) (Z:Zc) (es:List Expr) (ms:List (Option Nat)) (f:FA):Prop:=Bx fun tm=>PA X es (Vh X Z tm ms f)
instance {X:Cx} {Z:Zc} {es:List Expr} {ms:List (Option Nat)} {f:FA}:CoeFun (Ii X Z es ms f) fun _=>∀ tm,PA X es (Vh X Z tm ms f):=⟨fun h=>Bx.h h⟩
def AX (i:Nat):FE:=fun ρ Q=>match ρ[i]? with
 | some (some (t,true))=>Q t
 | _=>False
section
variable {X:Cx} {Z:Zc} {e:Expr} {es:List Expr} {g:FA}
theorem xu:Ii X Z [] [] AJ:=.mk fun tm=>PA.weak dW fun σ H Q ⟨ρ,O,q,I,hf,k⟩=>k _ hf [] H (aK.refl H) ⟨rfl,rfl⟩
theorem i_ {ms:List (Option Nat)} {f:FE} (h:VE X Z e f) (h':Ii X Z es ms g) (hs:starEach (e :: es) X.env=(false,eval e X.env) :: starEach es X.env:=by rfl):Ii X Z (e :: es) (none :: ms) (sG f g) :=
 .mk fun tm=>PA.weak (bY (h tm) (h' tm) hs) fun σ H Q ⟨ρ,O,q,I,hf,k⟩=>⟨ρ,O,_,I,hf,fun t ht v H1 s1 a1=>⟨ρ,O,_,I.same s1,ht,fun ts fW vs H2 s2 a2=>k _ fW _ H2 (s1.trans s2) ⟨t,ts,v,vs,rfl,rfl,a1.same s2,a2⟩⟩⟩
theorem qx (j:Nat) {ms:List (Option Nat)} {y:Str} {py:Pos} (h':Ii X Z es ms g) (hN:X.N[j]?=some y:=by rfl) (hv:uJ X.env.scope y:=by first | exact Or.inl rfl | exact Or.inr (Or.inl rfl) | exact Or.inr (Or.inr rfl)) (hd:(y == ("__debug__" : Str))=false:=by decide)
  (iq:(y == ("__classdict__" : Str))=false:=by decide) (hs:starEach (.Name y py :: es) X.env=(false,eval (.Name y py) X.env) :: starEach es X.env:=by rfl):Ii X Z (.Name y py :: es) (some j :: ms) (sG (AX j) g) :=
 .mk fun tm=>PA.weak (bY (eA hN hv hd iq) (h' tm) hs) fun σ H Q ⟨ρ,O,q,I,hf,k⟩=>by
  have Qn:AX j ρ fun t=>g ρ fun ts=>q (t :: ts):=hf
  unfold AX at Qn
  split at Qn
  · rename_i t e0
    obtain ⟨a,h1,h2,h3⟩:=I.root e0
    exact ⟨.ref a,h2,ρ,O,_,I,Qn,fun ts fW vs H2 s2 a2=>k _ fW _ H2 s2 ⟨a,t,ts,vs,rfl,rfl,e0,h1,a2⟩⟩
  · exact Qn.elim
end
def putK:List Nat→List T→En→En
 | k :: ks,u :: us,ρ=>putK ks us (ρ.set k (some (u,true)))
 | _,_,ρ=>ρ
theorem ml:∀ (ks:List Nat) (us:List T) (ρ:En),(putK ks us ρ).length=ρ.length
 | [],_,_=>rfl
 | _ :: _,[],_=>rfl
 | k :: ks,u :: us,ρ=>by rw [putK,ml]; simp
theorem sN:∀ {ks:List Nat} {us:List T} {ρ:En} {i:Nat} {e:Option (T×Bool)},ks.Nodup→ks.length=us.length→(putK ks us ρ)[i]?=some e→(i∉ks∧ρ[i]?=some e)∨∃ (j:Nat) (u:T),ks[j]?=some i∧us[j]?=some u∧e=some (u,true)
 | [],us,ρ,i,e,_,_,h=>.inl ⟨dU,h⟩
 | k :: ks,[],ρ,i,e,_,l,h=>by simp at l
 | k :: ks,u :: us,ρ,i,e,nd,l,h=>by
   rw [pe] at nd
   rcases sN nd.2 (by simpa using l) (show (putK ks us (ρ.set k (some (u,true))))[i]?=some e from h) with ⟨h1,h2⟩ | ⟨j,u',h1,h2,h3⟩
   · rcases get_set h2 with ⟨rfl,rfl,_⟩ | ⟨ne,h2⟩
     · exact .inr ⟨0,u,rfl,rfl,rfl⟩
     · exact .inl ⟨fun z=>by rcases cn.mp z with z | z; exact ne z; exact h1 z,h2⟩
   · exact .inr ⟨j+1,u',by simpa using h1,by simpa using h2,h3⟩
section
variable {K:PySem.W.Frag} {H H':Hp} {A:List Addr}
theorem At.Ij {as:List Addr} {t:T} {v:V} (fr:∀ b o,H b=some o→b∉as→H' b=some o) (sub:∀ a∈as,a∈A) (mu:∀ a∈as,∃ u,H a=some u∧sD u=true) (h:At K H A t v):At K H' A t v:=by
 refine At.map (fun b vs q=>?_) (fun b vs q=>?_) (fun b aU q=>?_) h
 · rcases q with q | q
   · refine .inl ⟨?_,q.2⟩
     have nb:b∉as:=fun z=>q.2 (sub b z)
     rcases q.1 with z | ⟨o',z⟩
     · exact .inl (fr _ _ z nb)
     · exact .inr ⟨o',fr _ _ z nb⟩
   · exact .inr q
 · rcases q with z | z
   · refine .inl ?_
     have nb:b∉as:=fun m=>by
      obtain ⟨u,eu,mu⟩:=mu b m
      rcases z with z | ⟨o',z⟩
      · rw [z] at eu; cases eu; cases mu
      · rw [z] at eu; cases eu; cases mu
     rcases z with z | ⟨o',z⟩
     · exact .inl (fr _ _ z nb)
     · exact .inr ⟨o',fr _ _ z nb⟩
   · exact .inr z
 · exact ⟨fr _ _ q.1 fun z=>q.2 (sub b z),q.2⟩
theorem AM.args {A':List Addr} {O:List (Option Addr)} {ρ:En} (sub:∀ a∈A',a∈A) (hr:∀ (k:Nat) t,ρ[k]?=some (some (t,true))→∃ a,O[k]?=some (some a)∧cq K H A a t):∀ {ms:List (Option Nat)} {ts:List T} {vs:List V},AM K H A O ρ ms ts vs →
  ∃ as,e_ K H A' (ms.map Option.isSome) as ts vs∧Paired (fun a k=>O[k]?=some (some a)) as (ms.filterMap id)
 | [],ts,vs,h=>⟨[],⟨rfl,h.1,h.2⟩,.nil⟩
 | none :: ms,ts,vs,h=>by
   obtain ⟨t,iJ,v,iT,rfl,rfl,a,h⟩:=h
   obtain ⟨as,h1,h2⟩:=AM.args sub hr h
   exact ⟨as,⟨t,iJ,v,iT,rfl,rfl,a.bh sub,h1⟩,h2⟩
 | some k :: ms,ts,vs,h=>by
   obtain ⟨a,t,iJ,iT,rfl,rfl,e0,e1,h⟩:=h
   obtain ⟨as,h1,h2⟩:=AM.args sub hr h
   obtain ⟨a',e2,r⟩:=hr k t e0
   rw [e1] at e2
   cases e2
   exact ⟨a :: as,⟨a,as,t,iJ,iT,rfl,rfl,rfl,r.bh sub,h1⟩,.cons e1 h2⟩
end
def Ik (ms:List (Option Nat)) (g:FA) (G:GT):FX:=fun ρ Q=>g ρ fun ts=>G ts fun us r=>Q (putK (ms.filterMap id) us ρ) r
section
variable {X:Cx} {Z:Zc} {k:Nat} {f:Addr} {fd:FuncData} {ps:List Str} {fs:List Bool} {G:GT} {x:Str} {p pos:Pos} {e:Expr} {es:List Expr} {g:FA} {ms:List (Option Nat)}
theorem F8 {K:PySem.W.Frag} {tm:List (T×V)} {O:List (Option Addr)} {ρ:En} {σ:St} {H:Hp} (I:aq K Z tm O ρ σ H) {i j:Nat} {a:Addr} (h1:O[i]?=some (some a)) (h2:O[j]?=some (some a)):i=j:=by
 have key:∀ (O:List (Option Addr)) (i j:Nat),i < j→O[i]?=some (some a)→O[j]?=some (some a)→(roots O).Nodup→False:=by
  intro O
  induction O with
  | nil=>intro i j _ h; simp at h
  | cons o O ih =>
    intro i j KP e1 e2 nd
    cases j with
    | zero=>omega
    | succ j =>
      have CJ:O[j]?=some (some a):=by simpa using e2
      cases i with
      | zero =>
        have:o=some a:=by simpa using e1
        subst this
        simp only [roots,lx,id] at nd
        exact (pe.mp nd).1 (aH.mpr (jO CJ))
      | succ i =>
        refine ih i j (by omega) (by simpa using e1) CJ ?_
        cases o with
        | none=>simpa [roots] using nd
        | some b=>simp only [roots,lx,id] at nd; exact (pe.mp nd).2
 rcases Nat.lt_trichotomy i j with l | l | l
 · exact (key O i j l h1 h2 I.nd).elim
 · exact l
 · exact (key O j i l h2 h1 I.nd).elim
theorem eF {α β:Type} {F:α→β→Prop}:∀ {l₁:List α} {l₂:List β} {a:α},Paired F l₁ l₂→a∈l₁→∃ b∈l₂,F a b
 | _,_,_,.nil,h=>nomatch h
 | _,_,a,.cons r t,h=>by
   rcases cn.mp h with z | z
   · subst z; exact ⟨_,eW,r⟩
   · obtain ⟨b,h1,h2⟩:=eF t z; exact ⟨b,g9 _ h1,h2⟩
theorem mm {α β:Type} {F:α→β→Prop}:∀ {l₁:List α} {l₂:List β} {i:Nat} {b:β},Paired F l₁ l₂→l₂[i]?=some b→∃ a,l₁[i]?=some a∧F a b
 | _,_,_,_,.nil,e=>by simp at e
 | _,_,0,_,.cons r _,e=>by simp at e; subst e; exact ⟨_,rfl,r⟩
 | _,_,i+1,b,.cons _ t,e=>by
   obtain ⟨a,h1,h2⟩:=mm (i:=i) (b:=b) t (by simpa using e)
   exact ⟨a,by simpa using h1,h2⟩
theorem gM {α β:Type} {F:α→β→Prop}:∀ {l₁:List α} {l₂:List β} {i:Nat} {a:α},Paired F l₁ l₂→l₁[i]?=some a→∃ b,l₂[i]?=some b∧F a b
 | _,_,_,_,.nil,e=>by simp at e
 | _,_,0,_,.cons r _,e=>by simp at e; subst e; exact ⟨_,rfl,r⟩
 | _,_,i+1,b,.cons _ t,e=>by
   obtain ⟨a,h1,h2⟩:=gM (i:=i) (a:=b) t (by simpa using e)
   exact ⟨a,by simpa using h1,h2⟩
theorem aq.called {K:PySem.W.Frag} {Z':Zc} {tm:List (T×V)} {O:List (Option Addr)} {ρ:En} {σ:St} {H H':Hp} {as:List Addr} {ks:List Nat} {us:List T} (I:aq K Z tm O ρ σ H) (hk:Paired (fun a k=>O[k]?=some (some a)) as ks) (nk:ks.Nodup)
  (fr:∀ b o,H b=some o→b∉as→H' b=some o) (hu:Paired (fun a u=>cq K H' (av Z' O) a u) as us)
  (hZ:Z'.H0=Z.H0) (hP:Z'.P=Z.P) (Vi:∀ a∈Z'.Ox,a∉roots O∧H' a≠none) (more:∀ a∈av Z' O,a∈av Z O∨H a=none):aq K Z' tm O (putK ks us ρ) σ H':=by
 have vi:∀ a∈as,a∈roots O:=fun a h=>by obtain ⟨k,_,e⟩:=eF hk h; exact aH.mpr (jO e)
 have sub:∀ a∈as,a∈av Z O:=fun a h=>iU _ (vi a h)
 have Ss:∀ a∈as,a∈av Z' O:=fun a h=>iU _ (vi a h)
 have mu:∀ a∈as,∃ u,H a=some u∧sD u=true:=fun a h=>(I.own a (vi a h)).2.2
 have fw:∀ {t:T} {v:V},At K H (av Z O) t v→At K H' (av Z' O) t v:=fun q=>(q.more more).Ij fr Ss mu
 have WJ:∀ {t:List T} {v:List V},au K H (av Z O) t v→au K H' (av Z' O) t v:=fun q=>au.iff.mpr (Paired.lU (au.iff.mp q) fun _ _ z=>fw z)
 refine ⟨by rw [ml]; exact I.lσ,by rw [ml]; exact I.lO,fun i e h=>?_,I.nd,fun b hb=>?_,by rw [hP]; exact I.par,fun a ha=>(Vi a ha).2,fun b o e n=>?_,fun p hp=>fw (I.oA p hp)⟩
 · rcases sN nk (by rw [← Paired.length hk,Paired.length hu]) h with ⟨h1,h2⟩ | ⟨j,u,h1,h2,rfl⟩
   · obtain ⟨o,s,g1,g2,g3⟩:=I.sl i e h2
     refine ⟨o,s,g1,g2,g3.map (fun _ _ q=>fw q) fun b t eo q=>?_⟩
     subst eo
     have nb:b∉as:=fun m=>by
      obtain ⟨k,Il,Im⟩:=eF hk m
      exact h1 (by rw [F8 I g1 Im]; exact Il)
     obtain ⟨u,eu,_⟩:=q.mut
     exact q.map (by rw [eu]; exact fr _ _ eu nb) fun _ _ z=>WJ z
   · obtain ⟨a,ha,r⟩:=mm hu h2
     obtain ⟨k,Il,Im⟩:=gM hk ha
     rw [h1] at Il
     cases Il
     have hl:i < ρ.length:=by rw [← I.lO]; exact (h9.mp Im).1
     obtain ⟨o,s,g1,g2,g3⟩:=I.sl i ρ[i] (by simp)
     rw [Im] at g1
     cases g1
     refine ⟨some a,s,Im,g2,a,rfl,?_,r⟩
     cases q:ρ[i] with
     | none=>rw [q] at g3; cases g3
     | some tb =>
       obtain ⟨t,b⟩:=tb
       rw [q] at g3
       cases b with
       | false=>cases g3.1
       | true=>obtain ⟨a',e1,e2,_⟩:=g3; cases e1; exact e2
 · obtain ⟨q1,q2,v,e,m⟩:=I.own b hb
   refine ⟨by rw [hZ,hP]; exact q1,fun z=>(Vi b z).1 hb,?_⟩
   by_cases Vj:b∈as
   · obtain ⟨j,hj⟩:=PX.mp Vj
     obtain ⟨u,_,r⟩:=gM hu hj
     exact r.mut
   · exact ⟨v,fr _ _ e Vj,m⟩
 · rw [hZ] at e
   rw [hP] at n
   refine fr _ _ (I.keep b o e n) fun m=>?_
   rcases (I.own b (vi b m)).1 with z | z
   · exact n z
   · rw [z] at e; cases e
theorem sO (F:dX X.prog X.w X.K X.mg X.base jN k f fd ps (qv X.K fs G)) (hr:bP k X.A) (hg:Gl X x) (hm:X.mg x=some (.ref f)) (hk:PySem.W.keepIn X.K (.ref f)=true) (hb:Binds X.K fd ps []) (ha:Ii X Z (e :: es) ms g)
  (Sr:ms.map Option.isSome=fs:=by rfl) (Io:(ms.filterMap id).Nodup:=by decide)
  (u4:(x == ("__debug__" : Str))=false:=by decide) (he:starEach (e :: es) X.env=(false,eval e X.env) :: starEach es X.env:=by rfl) (jU:(backTo pos (starEach es X.env)).any (·.1)=false:=by rfl) :
  VX X Z (.Call (.Name x p) (e :: es) [] pos) (Ik ms g G):=.mk fun tm=>PE.weak (qg F hr hg hm hk hb .nil xg (ha tm) u4 he jU) fun σ H Q ⟨ρ,O,q,I,hf,k⟩ =>
 ⟨ρ,O,_,I,hf,fun ts fW vs H1 s1 a1=>by
   subst Sr
   show qv X.K _ G (vs ++ []) H1 Q E0
   rw [CY]
   have J:=I.same s1
   obtain ⟨as,h1,h2⟩:=AM.args (A':=av Z O) (fun _ z=>z) (fun k t e=>by obtain ⟨a,q1,q2,q3⟩:=J.root e; exact ⟨a,q1,q3⟩) a1
   have vi:∀ a∈as,a∈roots O:=fun a h=>by obtain ⟨k,_,e⟩:=eF h2 h; exact aH.mpr (jO e)
   have WK:as.Nodup:=by
    clear h1
    have:∀ {as:List Addr} {ks:List Nat},ks.Nodup→Paired (fun a k=>O[k]?=some (some a)) as ks→as.Nodup:=by
     intro as ks nd h
     induction h with
     | nil=>exact List.nodup_nil
     | cons r t ih =>
       rw [pe] at nd ⊢
       refine ⟨fun m=>?_,ih nd.2⟩
       obtain ⟨k',m1,m2⟩:=eF t m
       exact nd.1 (by rw [F8 J r m2]; exact m1)
    exact this Io h2
   have Qo:∀ b,b∈as ++ (av Z O).filter (fun b=>decide (b∉as))↔b∈av Z O:=fun b=>by
    rw [gD,Lf]
    constructor
    · rintro (z | z)
      · exact iU _ (vi b z)
      · exact z.1
    · intro z
      by_cases hb:b∈as
      · exact .inl hb
      · exact .inr ⟨z,decide_eq_true hb⟩
   obtain ⟨pH,Ip,AY⟩:=AM.args (A':=as ++ (av Z O).filter (fun b=>decide (b∉as))) (fun b z=>(Qo b).mp z) (fun k t e=>by obtain ⟨a,q1,q2,q3⟩:=J.root e; exact ⟨a,q1,q3⟩) a1
   have ee:pH=as:=by
    have:∀ {as pH:List Addr} {ks:List Nat},Paired (fun a k=>O[k]?=some (some a)) as ks→Paired (fun a k=>O[k]?=some (some a)) pH ks→pH=as:=by
     intro as pH ks h h'
     induction h generalizing pH with
     | nil=>cases h'; rfl
     | cons r t ih =>
       cases h' with
       | cons r' t' =>
         rw [r] at r'
         cases r'
         rw [ih t']
    exact this h2 AY
   subst ee
   refine ⟨ts,pH,(av Z O).filter (fun b=>decide (b∉pH)),_,WK,fun a h z=>?_,fun a h=>J.KO a (Lf.mp h).1,Ip,fW,fun us r hr v H' fr z=>?_⟩
   · exact (of_decide_eq_true (Lf.mp z).2) h
   have My:∀ a∈Z.Ox,a∉roots O∧H' a≠none:=fun a h=>by
    have na:a∉roots O:=fun m=>(J.own a m).2.1 h
    refine ⟨na,?_⟩
    cases e:H1 a with
    | none=>exact absurd e (J.ox a h)
    | some u=>rw [fr _ _ e fun m=>na (vi a m)]; simp
   cases r with
   | vw t =>
     obtain ⟨z1,z2⟩:=z
     exact k _ _ hr O v H' ⟨J.called h2 Io fr (Paired.lU z2 fun _ _ q=>q.bh fun b hb=>(Qo b).mpr hb) rfl rfl My fun a h=>.inl h,z1.bh fun b hb=>(Qo b).mpr hb⟩
   | fr t =>
     obtain ⟨b,rfl,hb,nb,hR,z2⟩:=z
     obtain ⟨n1,n2,n3⟩:=J.fresh hb
     have sb:∀ c∈av (Z.ex b) O,c∈b :: (pH ++ (av Z O).filter (fun b=>decide (b∉pH))):=fun c hc=>by
      rcases cY c hc with z | z
      · exact g9 _ ((Qo c).mpr z)
      · rw [z]; exact eW
     refine k _ _ hr O _ H' ⟨b,rfl,J.called h2 Io fr (Paired.lU z2 fun _ _ q=>q.bh sb) rfl rfl (fun a h=>?_) (fun a h=>(cY a h).imp id fun e=>by rw [e]; exact hb),hR.bh sb,n3,n2⟩
     rcases cn.mp h with z | z
     · subst z
       obtain ⟨u,eu,_⟩:=hR.mut
       exact ⟨fun m=>n1 (iU _ m),by rw [eu]; simp⟩
     · exact My a z⟩
end
section
variable (K:PySem.W.Frag)
theorem sP:PySem.W.kitOne K (.type "int") (.type "int")=some true:=by kernel_rfl
theorem qy:PySem.W.kitOne K (.type "int") (.type "bool")=some false:=by kernel_rfl
theorem sQ:PySem.W.kitOne K (.type "int") (.type "str")=some false:=by kernel_rfl
theorem qz:PySem.W.kitOne K (.type "int") (.type "list")=some false:=by kernel_rfl
theorem oD:PySem.W.kitOne K (.type "int") (.type "tuple")=some false:=by kernel_rfl
theorem qA:PySem.W.kitOne K (.type "bool") (.type "int")=some true:=by kernel_rfl
theorem oE:PySem.W.kitOne K (.type "bool") (.type "bool")=some true:=by kernel_rfl
theorem qB:PySem.W.kitOne K (.type "bool") (.type "str")=some false:=by kernel_rfl
theorem oF:PySem.W.kitOne K (.type "bool") (.type "list")=some false:=by kernel_rfl
theorem mn:PySem.W.kitOne K (.type "bool") (.type "tuple")=some false:=by kernel_rfl
theorem sR:PySem.W.kitOne K (.type "str") (.type "int")=some false:=by kernel_rfl
theorem qC:PySem.W.kitOne K (.type "str") (.type "bool")=some false:=by kernel_rfl
theorem sS:PySem.W.kitOne K (.type "str") (.type "str")=some true:=by kernel_rfl
theorem qD:PySem.W.kitOne K (.type "str") (.type "list")=some false:=by kernel_rfl
theorem oG:PySem.W.kitOne K (.type "str") (.type "tuple")=some false:=by kernel_rfl
theorem qF:PySem.W.kitOne K (.type "list") (.type "int")=some false:=by kernel_rfl
theorem oH:PySem.W.kitOne K (.type "list") (.type "bool")=some false:=by kernel_rfl
theorem qG:PySem.W.kitOne K (.type "list") (.type "str")=some false:=by kernel_rfl
theorem oI:PySem.W.kitOne K (.type "list") (.type "list")=some true:=by kernel_rfl
theorem mq:PySem.W.kitOne K (.type "list") (.type "tuple")=some false:=by kernel_rfl
theorem oJ:PySem.W.kitOne K (.type "tuple") (.type "int")=some false:=by kernel_rfl
theorem mw:PySem.W.kitOne K (.type "tuple") (.type "bool")=some false:=by kernel_rfl
theorem oK:PySem.W.kitOne K (.type "tuple") (.type "str")=some false:=by kernel_rfl
theorem mx:PySem.W.kitOne K (.type "tuple") (.type "list")=some false:=by kernel_rfl
theorem k0:PySem.W.kitOne K (.type "tuple") (.type "tuple")=some true:=by kernel_rfl
theorem qH:PySem.W.kitOne K (.type "dict") (.type "int")=some false:=by kernel_rfl
theorem oM:PySem.W.kitOne K (.type "dict") (.type "bool")=some false:=by kernel_rfl
theorem qI:PySem.W.kitOne K (.type "dict") (.type "str")=some false:=by kernel_rfl
theorem oN:PySem.W.kitOne K (.type "dict") (.type "list")=some false:=by kernel_rfl
theorem my:PySem.W.kitOne K (.type "dict") (.type "tuple")=some false:=by kernel_rfl
theorem j7:PySem.W.kitOne K (.type "NoneType") (.type "int")=some false:=by kernel_rfl
theorem ja:PySem.W.kitOne K (.type "NoneType") (.type "bool")=some false:=by kernel_rfl
theorem j8:PySem.W.kitOne K (.type "NoneType") (.type "str")=some false:=by kernel_rfl
theorem jb:PySem.W.kitOne K (.type "NoneType") (.type "list")=some false:=by kernel_rfl
theorem iK:PySem.W.kitOne K (.type "NoneType") (.type "tuple")=some false:=by kernel_rfl
end
def Vk (K:PySem.W.Frag) (H:Hp):V→String→Prop
 | .bp,t=>t="NoneType"
 | .bl _,t=>t="bool"
 | .int _,t=>t="int"
 | .str _,t=>t="str"
 | .ref a,t=>(t="list"∧∃ xs,eB K H a xs)∨(t="tuple"∧∃ xs,dq K H a xs)∨(t="dict"∧∃ aU,H a=some (.dK aU))
 | _,_=>False
def Mz (K:PySem.W.Frag):List V→Hp→VK→Prop:=fun xs H Q=>∃ x n t b,xs=[x,.ty n]∧Vk K H x t∧PySem.W.kitOne K (.type t) (.type n)=some b∧Q (.bl b) H
theorem yq {X:Cx}:cM X (.builtin "isinstance") (Mz X.K):=by
 intro pins s σ H xs us Q I r h
 obtain ⟨x,n,t,b,rfl,ty,e,q⟩:=h
 obtain ⟨u,w',rfl,rx,ry⟩:=vals2 r
 obtain rfl:w'=Value.type n:=ry
 have fin:∀ tk,EP X pins σ Q (.bool b) { s with toks:=tk }:=fun tk=>⟨.bl b,H,I.tok _,rfl,q⟩
 cases x with
 | bp=>cases (show t=_ from ty); cases (show u=Value.none from rx); exact GQ PySem.W.kitx_none I.uR True.intro e (fun z=>nomatch z) fin
 | bl y=>cases (show t=_ from ty); cases (show u=Value.bool y from rx); exact GQ PySem.W.kitx_bool I.uR True.intro e (fun z=>nomatch z) fin
 | int i=>cases (show t=_ from ty); obtain ⟨t,q⟩:=(show ∃ t,u=Value.int i t from rx); cases q; exact GQ PySem.W.kitx_int I.uR True.intro e (fun z=>nomatch z) fin
 | str y=>cases (show t=_ from ty); obtain ⟨t,q⟩:=(show ∃ t,u=Value.str y t from rx); cases q; exact GQ PySem.W.kitx_str I.uR True.intro e (fun z=>nomatch z) fin
 | ref a =>
   cases (show u=Value.ref a from rx)
   rcases ty with ⟨rfl,xs,hq⟩ | ⟨rfl,xs,hq⟩ | ⟨rfl,aU,hq⟩
   · obtain ⟨aJ,_,p,_⟩:=I.list hq
     obtain ⟨o,n',h1,h2,_⟩:=p
     exact GQ PySem.W.kitx_list I.uR ⟨o,h1,h2⟩ e (fun z=>nomatch z) fin
   · obtain ⟨aJ,_,p,_⟩:=I.tuple hq
     obtain ⟨o,h1,h2,_⟩:=p
     exact GQ PySem.W.kitx_tuple I.uR ⟨o,h1,h2⟩ e (fun z=>nomatch z) fin
   · obtain ⟨_,_,vs,_,p⟩:=(show b8 X.prog X.w H s.heap a (.dK aU) from I.bA a _ hq)
     obtain ⟨o,es,ep,h1,h2,_⟩:=p
     exact GQ PySem.W.kitx_dict I.uR ⟨o,h1,h2.1⟩ e (fun z=>nomatch z) fin
 | _=>exact (show False from ty).elim
def isInt:T→Bool
 | .int _=>true
 | .bl _=>true
 | _=>false
def isBool:T→Bool
 | .bl _=>true
 | _=>false
def isStr:T→Bool
 | .str _=>true
 | _=>false
def isList:T→Bool
 | .lst _=>true
 | _=>false
def DW:T→Bool
 | .tup _=>true
 | _=>false
def known:T→Bool
 | .dt _ _=>false
 | .df _ _ _=>false
 | .dz _ _ _=>false
 | .kt _=>false
 | .ins _ _ _=>false
 | .pin _ _=>false
 | .ob _=>false
 | .ty _=>false
 | _=>true
def j9 (K:PySem.W.Frag) (n:String) (p:T→Bool):Prop:=∀ H A t v,known t=true→fU K H A t v→∃ ty,Vk K H v ty∧PySem.W.kitOne K (.type ty) (.type n)=some (p t)
theorem mz {K:PySem.W.Frag}:j9 K "int" isInt:=by
 intro H A t v hk h
 cases t with
 | bp=>rw [h.bp]; exact ⟨_,rfl,j7 K⟩
 | bl b=>rw [h.bl]; exact ⟨_,rfl,qA K⟩
 | int b=>rw [h.int]; exact ⟨_,rfl,sP K⟩
 | str b=>rw [h.str]; exact ⟨_,rfl,sR K⟩
 | tup l=>obtain ⟨a,vs,rfl,q,_⟩:=h.tup; exact ⟨_,.inr (.inl ⟨rfl,_,q⟩),oJ K⟩
 | lst l=>obtain ⟨a,vs,rfl,q,_⟩:=h.lst; exact ⟨_,.inl ⟨rfl,_,q⟩,qF K⟩
 | dk ks l=>obtain ⟨a,vs,rfl,_,q,_⟩:=h.dk; exact ⟨_,.inr (.inr ⟨rfl,_,q⟩),qH K⟩
 | _=>simp only [known] at hk; cases hk
theorem pI {K:PySem.W.Frag}:j9 K "bool" isBool:=by
 intro H A t v hk h
 cases t with
 | bp=>rw [h.bp]; exact ⟨_,rfl,ja K⟩
 | bl b=>rw [h.bl]; exact ⟨_,rfl,oE K⟩
 | int b=>rw [h.int]; exact ⟨_,rfl,qy K⟩
 | str b=>rw [h.str]; exact ⟨_,rfl,qC K⟩
 | tup l=>obtain ⟨a,vs,rfl,q,_⟩:=h.tup; exact ⟨_,.inr (.inl ⟨rfl,_,q⟩),mw K⟩
 | lst l=>obtain ⟨a,vs,rfl,q,_⟩:=h.lst; exact ⟨_,.inl ⟨rfl,_,q⟩,oH K⟩
 | dk ks l=>obtain ⟨a,vs,rfl,_,q,_⟩:=h.dk; exact ⟨_,.inr (.inr ⟨rfl,_,q⟩),oM K⟩
 | _=>simp only [known] at hk; cases hk
theorem eG {K:PySem.W.Frag}:j9 K "str" isStr:=by
 intro H A t v hk h
 cases t with
 | bp=>rw [h.bp]; exact ⟨_,rfl,j8 K⟩
 | bl b=>rw [h.bl]; exact ⟨_,rfl,qB K⟩
 | int b=>rw [h.int]; exact ⟨_,rfl,sQ K⟩
 | str b=>rw [h.str]; exact ⟨_,rfl,sS K⟩
 | tup l=>obtain ⟨a,vs,rfl,q,_⟩:=h.tup; exact ⟨_,.inr (.inl ⟨rfl,_,q⟩),oK K⟩
 | lst l=>obtain ⟨a,vs,rfl,q,_⟩:=h.lst; exact ⟨_,.inl ⟨rfl,_,q⟩,qG K⟩
 | dk ks l=>obtain ⟨a,vs,rfl,_,q,_⟩:=h.dk; exact ⟨_,.inr (.inr ⟨rfl,_,q⟩),qI K⟩
 | _=>simp only [known] at hk; cases hk
theorem yr {K:PySem.W.Frag}:j9 K "list" isList:=by
 intro H A t v hk h
 cases t with
 | bp=>rw [h.bp]; exact ⟨_,rfl,jb K⟩
 | bl b=>rw [h.bl]; exact ⟨_,rfl,oF K⟩
 | int b=>rw [h.int]; exact ⟨_,rfl,qz K⟩
 | str b=>rw [h.str]; exact ⟨_,rfl,qD K⟩
 | tup l=>obtain ⟨a,vs,rfl,q,_⟩:=h.tup; exact ⟨_,.inr (.inl ⟨rfl,_,q⟩),mx K⟩
 | lst l=>obtain ⟨a,vs,rfl,q,_⟩:=h.lst; exact ⟨_,.inl ⟨rfl,_,q⟩,oI K⟩
 | dk ks l=>obtain ⟨a,vs,rfl,_,q,_⟩:=h.dk; exact ⟨_,.inr (.inr ⟨rfl,_,q⟩),oN K⟩
 | _=>simp only [known] at hk; cases hk
theorem dA {K:PySem.W.Frag}:j9 K "tuple" DW:=by
 intro H A t v hk h
 cases t with
 | bp=>rw [h.bp]; exact ⟨_,rfl,iK K⟩
 | bl b=>rw [h.bl]; exact ⟨_,rfl,mn K⟩
 | int b=>rw [h.int]; exact ⟨_,rfl,oD K⟩
 | str b=>rw [h.str]; exact ⟨_,rfl,oG K⟩
 | tup l=>obtain ⟨a,vs,rfl,q,_⟩:=h.tup; exact ⟨_,.inr (.inl ⟨rfl,_,q⟩),k0 K⟩
 | lst l=>obtain ⟨a,vs,rfl,q,_⟩:=h.lst; exact ⟨_,.inl ⟨rfl,_,q⟩,mq K⟩
 | dk ks l=>obtain ⟨a,vs,rfl,_,q,_⟩:=h.dk; exact ⟨_,.inr (.inr ⟨rfl,_,q⟩),my K⟩
 | _=>simp only [known] at hk; cases hk
def MA (f:FE) (p:T→Bool):FP:=fun ρ Q=>f ρ fun t=>known t=true∧Q (.vw (.bl (p t)))
section
variable {X:Cx} {Z:Zc} {e a b c:Expr} {es:List Expr} {pos p p2:Pos} {fa fb KR:FE}
theorem qJ:bootBuiltins "isinstance" = some (.builtin "isinstance"):=by decide +kernel
theorem bF {n:String} {y:Str} {q:T→Bool} (hq:j9 X.K n q) (hg:Gl X "isinstance") (hm:X.mg "isinstance" = none) (WL:Gl X y) (WM:X.mg y=none) (WN:bootBuiltins y=some (.type n)) (ha:VR X Z e fa)
  (WO:y≠"__name__":=by decide) (WQ:(y == ("__debug__" : Str))=false:=by decide)
  (hs:starEach [e,.Name y p2] X.env=(false,eval e X.env) :: starEach [.Name y p2] X.env:=by rfl) (CL:starEach [.Name y p2] X.env=(false,eval (.Name y p2) X.env) :: starEach [] X.env:=by rfl) (jU:(backTo pos (starEach [.Name y p2] X.env)).any (·.1)=false:=by rfl) :
  VP X Z (.Call (.Name "isinstance" p) [e,.Name y p2] [] pos) (MA fa q):=.mk fun tm =>
 PE.weak (lZ yq hg hm qJ (bY (ha tm) (bY (C3 (v:=.ty n) WL WM WN rfl WO WQ) dW CL) hs) (by decide) (by decide) hs jU) fun σ H Q ⟨ρ,O,q',I,hf,k⟩=>⟨ρ,O,_,I,hf,fun t ht v H1 s1 a1=>by
  obtain ⟨ty,h1,h2⟩:=hq H1 _ t v ht.1 a1
  exact ⟨v,n,ty,_,rfl,h1,h2,k _ ht.2 _ H1 s1 ⟨I.same s1,dr⟩⟩⟩
def iu:T→Bool
 | .bp=>true
 | .bl _=>true
 | .int _=>true
 | .str _=>true
 | _=>false
def sT:List T→Bool
 | []=>true
 | t :: ts=>iu t && sT ts
def zU (x:T):List T→Bool
 | []=>false
 | t :: ts=>eqT t x || zU x ts
theorem j_ {K:PySem.W.Frag} {H:Hp} {A:List Addr}:∀ {ts:List T} {vs:List V} {x:T} {v:V},sT ts=true→iu x=true→au K H A ts vs→At K H A x v→vs.all gG=true∧gG v=true∧Qc v vs=zU x ts
 | [],vs,x,v,_,fx,h,hx=>by
   simp only [au] at h; subst h
   refine ⟨rfl,?_,rfl⟩
   cases x <;> simp only [At] at hx <;> first | (subst hx; rfl) | (simp only [iu] at fx; cases fx)
 | t :: ts,vs,x,v,f,fx,h,hx=>by
   simp only [au] at h
   obtain ⟨u,r,rfl,h1,h2⟩:=h
   simp only [sT,il] at f
   obtain ⟨i1,i2,i3⟩:=j_ f.2 fx h2 hx
   have ft:gG u=true:=by
    cases t <;> simp only [At] at h1 <;> first | (subst h1; rfl) | (have:=f.1; simp only [iu] at this; cases this)
   have e:CI u v=eqT t x:=by
    cases t <;> simp only [At] at h1 <;> first
     | (have:=f.1; simp only [iu] at this; cases this; done)
     | (subst h1
        cases x <;> simp only [At] at hx <;> first
         | (simp only [iu] at fx; cases fx; done)
         | (subst hx; simp [CI,eqT]; done))
   refine ⟨by simp [ft,i1],i2,?_⟩
   simp only [zU,Qc,Kz]
   rw [e]
   congr 1
def Iq (K:PySem.W.Frag) (neg:Bool):R2:=fun x y H Q=>U6 K neg x y H Q∨∃ i j,x = .str i∧y = .str j∧Q (.bl (if neg then !(!(Builtin.Str.occurrences j i 0 j.length 1).isEmpty) else !(Builtin.Str.occurrences j i 0 j.length 1).isEmpty)) H
theorem vj:eC X (compareOp .In) (Iq X.K false):=by
 intro pins s σ H x y v u Q I rx ry h
 rcases h with h | ⟨i,j,h1,h2,h⟩
 · exact yf pins s σ H x y v u Q I rx ry h
 · exact yd pins s σ H x y v u Q I rx ry ⟨i,j,h1,h2,by simpa using h⟩
def sU (i j:Str):Bool:=!(Builtin.Str.occurrences j i 0 j.length 1).isEmpty
def MC (x y:T) (q:Rt→Prop):Prop:=match y with
 | .lst ts=>iu x=true∧sT ts=true∧q (.vw (.bl (zU x ts)))
 | .tup ts=>iu x=true∧sT ts=true∧q (.vw (.bl (zU x ts)))
 | .str j=>∃ i,x = .str i∧q (.vw (.bl (sU i j)))
 | _=>False
theorem vk {K:PySem.W.Frag}:oB K (Iq K false) MC:=by
 intro Z tm O ρ σ H x y v w q Q I h1 h2 h k
 have x1:iu x=true→At K H (av Z O) x v:=fun f=>by
  rcases h1 with h | ⟨a,rfl,h⟩
  · exact h
  · cases x <;> first | exact h.elim | (simp only [iu] at f; cases f)
 unfold MC at h
 split at h
 · obtain ⟨f1,f2,h⟩:=h
   obtain ⟨a,vs,rfl,q1,q2⟩:=h2.lst
   obtain ⟨i1,i2,i3⟩:=j_ f2 f1 q2 (x1 f1)
   exact .inl ⟨a,vs,rfl,.inl q1,i2,i1,k _ h _ H (aK.refl H) ⟨I,by rw [if_neg iS,i3]; exact dr⟩⟩
 · obtain ⟨f1,f2,h⟩:=h
   obtain ⟨a,vs,rfl,q1,q2⟩:=h2.tup
   obtain ⟨i1,i2,i3⟩:=j_ f2 f1 q2 (x1 f1)
   exact .inl ⟨a,vs,rfl,.inr q1,i2,i1,k _ h _ H (aK.refl H) ⟨I,by rw [if_neg iS,i3]; exact dr⟩⟩
 · obtain ⟨i,rfl,h⟩:=h
   exact .inr ⟨i,_,h1.str,h2.str,k _ h _ H (aK.refl H) ⟨I,by rw [if_neg iS]; exact dr⟩⟩
 · exact h.elim
theorem AZ (ha:VR X Z a fa) (hb:VR X Z b fb) (hm:behindInMarks .In b=false:=by rfl):VP X Z (.Compare a [.In] [b] pos) (f2 fa fb MC):=qq vj vk ha hb hm
theorem F9 (ha:VR X Z a fa) (hb:VR X Z b fb) (hm:behindInMarks .In b=false:=by rfl):VC X Z (.Compare a [.In] [b] pos) (qr (f2 fa fb MC)):=j0 vj vk ha hb hm
def F_:T→Bool
 | .bp=>true
 | _=>false
def Su (x y:T) (q:Rt→Prop):Prop:=match y with
 | .bp=>q (.vw (.bl (F_ x)))
 | _=>False
theorem DX {K:PySem.W.Frag} {H:Hp} {A:List Addr} {t:T} {v:V} (h:fU K H A t v):decide (v = .bp)=F_ t:=by
 cases t with
 | bp=>rw [h.bp]; rfl
 | bl b=>rw [h.bl]; rfl
 | int b=>rw [h.int]; rfl
 | str b=>rw [h.str]; rfl
 | ob b=>rw [h.ob]; rfl
 | ty b =>
   have:v = .ty b:=h.elim (fun q=>by simpa only [At] using q) fun ⟨_,_,q⟩=>q.elim
   rw [this]; rfl
 | tup l=>obtain ⟨a,vs,rfl,_⟩:=h.tup; rfl
 | lst l=>obtain ⟨a,vs,rfl,_⟩:=h.lst; rfl
 | dk ks l=>obtain ⟨a,vs,rfl,_⟩:=h.dk; rfl
 | dt ks l=>obtain ⟨a,vs,rfl,_⟩:=h.dt; rfl
 | df o ks l=>obtain ⟨a,vs,rfl,_⟩:=h.df; rfl
 | dz o ks l=>obtain ⟨a,vs,rfl,_⟩:=h.dz; rfl
 | kt k=>obtain ⟨a,rfl,_⟩:=h.kt; rfl
 | ins C ns l=>obtain ⟨a,dx,vs,rfl,_⟩:=h.ins; rfl
 | pin a t =>
   have e:v = .ref a:=h.elim (fun q=>by simp only [At] at q; exact q.1) fun ⟨_,_,q⟩=>q.elim
   rw [e]; rfl
theorem Ir {K:PySem.W.Frag}:oB K (fun x y H Q=>y = .bp∧Q (.bl (decide (x = .bp))) H) Su:=by
 intro Z tm O ρ σ H x y v w q Q I h1 h2 h k
 unfold Su at h
 split at h
 · exact ⟨h2.bp,k _ h _ H (aK.refl H) ⟨I,by rw [DX h1]; exact dr⟩⟩
 · exact h.elim
theorem A0 (ha:VR X Z a fa) (hb:VR X Z b fb):VC X Z (.Compare a [.Is] [b] pos) (qr (f2 fa fb Su)):=j0 Hn Ir ha hb (iC _)
theorem sV {g g':Int→Int→Bool} {tm:List (T×V)} {σ:St} {H:Hp} {Q:VK} (h:lP X Z tm (f3 fa fb KR (HJ g) (HJ g')) σ H Q):uX (qf fun i j=>.bl (g i j)) (qf fun i j=>.bl (g' i j)) (lR X Z tm fa) (lR X Z tm fb) (lR X Z tm KR) σ H Q:=by
 obtain ⟨ρ,O,q,I,hf,k⟩:=h
 refine ⟨ρ,O,_,I,hf,fun x hx v H1 s1 a1=>⟨ρ,O,_,I.same s1,hx,fun y hy w H2 s2 a2=>?_⟩⟩
 have J:=(I.same s1).same s2
 unfold HJ at hy
 split at hy
 · rename_i i j
   refine ⟨i,j,(a1.same s2).int,a2.int,_,rfl,?_⟩
   cases e:g i j with
   | true =>
     rw [e] at hy
     refine Mb ⟨ρ,O,_,J,hy,fun z hz w3 H3 s3 a3=>?_⟩
     split at hz
     · rename_i e1
       cases e1
       exact ⟨_,_,(a2.same s3).int,a3.int,k _ hz _ H3 ((s1.trans s2).trans s3) ⟨J.same s3,dr⟩⟩
     · exact hz.elim
   | false =>
     rw [e] at hy
     exact Ma (k _ hy _ H2 (s1.trans s2) ⟨J,dr⟩)
 · exact hy.elim
theorem A1 {op uY:CmpOp} {g g':Int→Int→Bool} (ho:eC X (compareOp op) (qf fun i j=>.bl (g i j))) (uS:eC X (compareOp uY) (qf fun i j=>.bl (g' i j))) (ha:VR X Z a fa) (hb:VR X Z b fb) (hc:VR X Z c KR)
 (hm:lastMarks [op,uY] [b,c]=false:=by with_unfolding_all rfl):VP X Z (.Compare a [op,uY] [b,c] pos) (f3 fa fb KR (HJ g) (HJ g')):=.mk fun tm=>PE.weak (An ho uS (ha tm) (hb tm) (hc tm) hm) fun σ H Q h=>sV h
theorem A2 {op uY:CmpOp} {g g':Int→Int→Bool} (ho:eC X (compareOp op) (qf fun i j=>.bl (g i j))) (uS:eC X (compareOp uY) (qf fun i j=>.bl (g' i j))) (ha:VR X Z a fa) (hb:VR X Z b fb) (hc:VR X Z c KR)
  (hm:lastMarks [op,uY] [b,c]=false:=by with_unfolding_all rfl):VC X Z (.Compare a [op,uY] [b,c] pos) (qr (f3 fa fb KR (HJ g) (HJ g'))):=.mk fun tm=>PT.weak (Ao ho uS (ha tm) (hb tm) (hc tm) hm) fun σ H Q ⟨ρ,O,q,I,hf,k⟩ =>
 sV ⟨ρ,O,_,I,hf,fun t ht u H' s a=>by
  obtain ⟨c,rfl,hc⟩:=vd ht
  have e:=a.2
  simp only [At] at e
  exact ⟨c,e,k c hc H' s⟩⟩
def kJ (ts:List T):List T:=ts.mapIdx fun i t=>.tup [.int (i:Int),t]
def MD (f:FE):FI:=fun ρ Q=>f ρ fun t=>match t with
 | .lst ts=>Q (kJ ts)
 | _=>False
theorem DY {K:PySem.W.Frag} {a:Addr} {ts:List T}:Wk K (RP K a) [(.lst ts,.ref a)] (kJ ts):=fun H A hA h i=>by
 have h:=h _ eW
 simp only [At] at h
 obtain ⟨b,vs,e,l,q⟩:=h
 cases e
 have hl:=q.length
 have hle:(kJ ts).length=ts.length:=by unfold kJ; rw [List.length_mapIdx]
 rw [hle]
 refine ⟨fun hi=>⟨vs,vs[i]'(by omega),l.sq,by simp⟩,fun hi=>⟨vs,l.sq,by omega⟩,fun t ht x H' y=>?_⟩
 obtain ⟨p,u,hp,rfl,hu,rfl⟩:=y
 unfold kJ at ht
 rw [List.getElem?_mapIdx] at ht
 cases e:ts[i]? with
 | none=>rw [e] at ht; cases ht
 | some t' =>
   rw [e] at ht
   cases ht
   obtain ⟨v,e1,e2⟩:=q.get e
   have:=hu vs l.sq
   rw [e1] at this
   cases this
   exact ⟨aM hp,bt (dq.of aX) (au.cons bD (au.cons (e2.same (aM hp)) au.nil))⟩
theorem jc {elts:List Expr} {x1} {tp:Pos} (hg:Gl X "enumerate") (hm:X.mg "enumerate" = none) (ha:VE X Z a fa) (hs:starEach [a] X.env=[(false,eval a X.env)]:=by rfl) :
  VI X Z (.Tuple elts x1 tp) (.Call (.Name "enumerate" p) [a] [] pos) (MD fa):=.mk fun tm=>PI.weak (DF hg hm (bY (ha tm) dW hs) hs) fun σ H R ⟨ρ,O,q,I,hf,k⟩=>⟨ρ,O,_,I,hf,fun t ht v H' s a=>by
 split at ht
 · have a0:=a
   simp only [At] at a
   obtain ⟨p,vs,rfl,l,_⟩:=a
   exact ⟨p,rfl,⟨vs,l.sq⟩,k _ ht _ H' _ s (fun p hp=>by rw [r6.mp hp]; exact a0) DY⟩
 · exact ht.elim⟩
def bS:List T→Option (List Bool)
 | []=>some []
 | .bl b :: ts=>(bS ts).map (b :: ·)
 | _=>none
def intsOf:List T→Option (List Int)
 | []=>some []
 | .int b :: ts=>(intsOf ts).map (b :: ·)
 | _=>none
theorem A3 {K:PySem.W.Frag} {H:Hp} {A:List Addr}:∀ {ts:List T} {bs:List Bool} {vs:List V},bS ts=some bs→au K H A ts vs→vs=bs.map V.bl
 | [],bs,vs,e,h=>by simp only [bS] at e; cases e; simp only [au] at h; rw [h]; rfl
 | .bl b :: ts,bs,vs,e,h=>by
   simp only [bS] at e
   cases q:bS ts with
   | none=>rw [q] at e; cases e
   | some cs =>
     rw [q] at e
     cases e
     simp only [au,At] at h
     obtain ⟨v,r,rfl,rfl,h⟩:=h
     rw [A3 q h]; rfl
 | .bp :: _,_,_,e,_=>by simp [bS] at e
 | .int _ :: _,_,_,e,_=>by simp [bS] at e
 | .str _ :: _,_,_,e,_=>by simp [bS] at e
 | .tup _ :: _,_,_,e,_=>by simp [bS] at e
 | .lst _ :: _,_,_,e,_=>by simp [bS] at e
 | .dk _ _ :: _,_,_,e,_=>by simp [bS] at e
 | .dt _ _ :: _,_,_,e,_=>by simp [bS] at e
 | .df _ _ _ :: _,_,_,e,_=>by simp [bS] at e
 | .dz _ _ _ :: _,_,_,e,_=>by simp [bS] at e
 | .kt _ :: _,_,_,e,_=>by simp [bS] at e
 | .ins _ _ _ :: _,_,_,e,_=>by simp [bS] at e
 | .pin _ _ :: _,_,_,e,_=>by simp [bS] at e
 | .ob _ :: _,_,_,e,_=>by simp [bS] at e
 | .ty _ :: _,_,_,e,_=>by simp [bS] at e
theorem xv {K:PySem.W.Frag} {H:Hp} {A:List Addr}:∀ {ts:List T} {bs:List Int} {vs:List V},intsOf ts=some bs→au K H A ts vs→vs=bs.map V.int
 | [],bs,vs,e,h=>by simp only [intsOf] at e; cases e; simp only [au] at h; rw [h]; rfl
 | .int b :: ts,bs,vs,e,h=>by
   simp only [intsOf] at e
   cases q:intsOf ts with
   | none=>rw [q] at e; cases e
   | some cs =>
     rw [q] at e
     cases e
     simp only [au,At] at h
     obtain ⟨v,r,rfl,rfl,h⟩:=h
     rw [xv q h]; rfl
 | .bp :: _,_,_,e,_=>by simp [intsOf] at e
 | .bl _ :: _,_,_,e,_=>by simp [intsOf] at e
 | .str _ :: _,_,_,e,_=>by simp [intsOf] at e
 | .tup _ :: _,_,_,e,_=>by simp [intsOf] at e
 | .lst _ :: _,_,_,e,_=>by simp [intsOf] at e
 | .dk _ _ :: _,_,_,e,_=>by simp [intsOf] at e
 | .dt _ _ :: _,_,_,e,_=>by simp [intsOf] at e
 | .df _ _ _ :: _,_,_,e,_=>by simp [intsOf] at e
 | .dz _ _ _ :: _,_,_,e,_=>by simp [intsOf] at e
 | .kt _ :: _,_,_,e,_=>by simp [intsOf] at e
 | .ins _ _ _ :: _,_,_,e,_=>by simp [intsOf] at e
 | .pin _ _ :: _,_,_,e,_=>by simp [intsOf] at e
 | .ob _ :: _,_,_,e,_=>by simp [intsOf] at e
 | .ty _ :: _,_,_,e,_=>by simp [intsOf] at e
def ME (ts:List T) (q:Rt→Prop):Prop:=match ts with
 | [.lst l]=>∃ bs,bS l=some bs∧q (.vw (.bl (bs.all id)))
 | _=>False
theorem dB {K:PySem.W.Frag}:i6 K (fun xs H Q=>∃ (p:Addr) (bs:List Bool),xs=[.ref p]∧eB K H p (bs.map V.bl)∧Q (.bl (bs.all id)) H) ME:=by
 intro Z tm O ρ σ H ts vs q Q I h hp k
 unfold ME at hp
 split at hp
 · obtain ⟨bs,e,hp⟩:=hp
   obtain ⟨v,rfl,a⟩:=cc h
   obtain ⟨p,ws,rfl,q1,q2⟩:=a.lst
   rw [A3 e q2] at q1
   exact ⟨p,bs,rfl,q1,k _ hp _ H (aK.refl H) ⟨I,dr⟩⟩
 · exact hp.elim
def MF (ts:List T) (q:Rt→Prop):Prop:=match ts with
 | [.lst l]=>∃ ns,intsOf l=some ns∧q (.vw (.int ns.sum))
 | _=>False
theorem yt {K:PySem.W.Frag}:i6 K (fun xs H Q=>∃ (p:Addr) (ns:List Int),xs=[.ref p]∧eB K H p (ns.map V.int)∧Q (.int ns.sum) H) MF:=by
 intro Z tm O ρ σ H ts vs q Q I h hp k
 unfold MF at hp
 split at hp
 · obtain ⟨bs,e,hp⟩:=hp
   obtain ⟨v,rfl,a⟩:=cc h
   obtain ⟨p,ws,rfl,q1,q2⟩:=a.lst
   rw [xv e q2] at q1
   exact ⟨p,bs,rfl,q1,k _ hp _ H (aK.refl H) ⟨I,bD⟩⟩
 · exact hp.elim
end
structure Df (K:PySem.W.Frag) (mg:Str→Option Value) (x:Str) (st:Stmt) (ps:List Str) (f:Addr) (fd:FuncData):Prop where
 F:Dv K x x st f fd
 m:mg x=some (.ref f)
 b:Binds K fd ps []
def bX (P:Program) (w:World) (K:PySem.W.Frag) (mg:Str→Option Value) (base:Heap) (x:Str) (ps:List Str) (k:Nat) (sp:Sp):Prop :=
 ∃ f fd,mg x=some (.ref f)∧PySem.W.keepIn K (.ref f)=true∧Binds K fd ps []∧dX P w K mg base jN k f fd ps sp
theorem Df.gA {P:Program} {w:World} {K:PySem.W.Frag} {mg:Str→Option Value} {base:Heap} {x:Str} {st:Stmt} {ps:List Str} {f:Addr} {fd:FuncData} {k:Nat} {sp:Sp} (D:Df K mg x st ps f fd) (F:dX P w K mg base jN k f fd ps sp):bX P w K mg base x ps k sp :=
 ⟨f,fd,D.m,D.F.kp,D.b,F⟩
theorem kK {H:Hp} {Ox:List Addr} {i:Nat}:aT ⟨H,[],Ox⟩ i:=fun _ z=>nomatch z
section
variable {P:Program} {w:World} {K:PySem.W.Frag} {mg:Str→Option Value} {base:Heap}
theorem gN {x qual:Str} {st:Stmt} {f:Addr} {fd:FuncData} {N ps:List Str} {k n:Nat} {G:List T→(Rt→Prop)→Prop} (F:Dv K x qual st f fd) (S:aE N ps (ak st)) (hn:n=ps.length)
  (lY:∀ (bZ:Value) (A:Around) (outer:List Env) (s:Shared) (H:Hp) (E:XK) (Ox:List Addr),bP k (A.deeper (envOfC qual (ak st) s.heap.objs.size f bZ))→∀ ts q,G ts q →
    ∃ g,lF (ib jN P w K mg base N qual (ak st) f bZ A outer s H E).r0 ⟨H,[],Ox⟩ (c8 st) g∧(ts.length=n→g { nx:=fun _=>q (.vw .bp),rt:=fun _ r=>q r } (ts.map (fun t=>some (t,false)) ++ List.replicate (N.length - ts.length) none))) :
  dX P w K mg base jN (k+1) f fd ps (bR K n G):=by
 have hp:∀ n (as:List Addr) k,pz (List.replicate n false) as k=[]:=by
  intro n
  induction n with
  | zero=>intro as k; rfl
  | succ n ih=>intro as k; exact ih as (k+1)
 have WR:∀ n (ρ:En),oC (List.replicate n false) ρ=[]:=by
  intro n
  induction n with
  | zero=>intro ρ; rfl
  | succ n ih=>intro ρ; exact ih ρ.tail
 have he:∀ n (ts:List T),ts.length=n→vh (List.replicate n false) ts=ts.map fun t=>some (t,false):=by
  intro n
  induction n with
  | zero=>intro ts e; cases ts <;> simp_all [vh]
  | succ n ih =>
    intro ts e
    cases ts with
    | nil=>simp at e
    | cons t ts=>rw [Lc,vh,ih ts (by simpa using e)]; rfl
 refine Sq F S (by rw [CW]; exact hn) fun bZ A outer s H E as Ox hr ts q hl hG=>?_
 rw [CW] at hl
 obtain ⟨g,h1,h2⟩:=lY bZ A outer s H E Ox hr ts (q []) hG
 refine ⟨g,by rw [hp]; exact h1,?_⟩
 rw [he n ts hl]
 simp only [WR]
 exact h2 hl
end
theorem bP.gg {k:Nat} {A:Around} (r:bP k A):A.units+101 < cLine:=by have:=r.un; omega
theorem vm:bootBuiltins "list" = some (.type "list"):=by decide +kernel
theorem dc:bootBuiltins "tuple" = some (.type "tuple"):=by decide +kernel
theorem mB:bootBuiltins "all" = some (.builtin "all"):=by decide +kernel
theorem MH:bootBuiltins "sum" = some (.builtin "sum"):=by decide +kernel
theorem xw:bootBuiltins "int" = some (.type "int"):=by decide +kernel
theorem A4:bootBuiltins "bool" = some (.type "bool"):=by decide +kernel
theorem mD:bootBuiltins "str" = some (.type "str"):=by decide +kernel
theorem lH:∀ {fs:List Bool} {as:List Addr} {k:Nat},∀ p∈pz fs as k,k≤p.1∧fs[p.1 - k]?=some true
 | [],_,_,p,hp=>nomatch hp
 | false :: fs,as,k,p,hp=>by
   obtain ⟨h1,h2⟩:=lH (fs:=fs) (as:=as) (k:=k+1) p hp
   refine ⟨by omega,?_⟩
   have:p.1 - k=(p.1 - (k+1))+1:=by omega
   rw [this]; simpa using h2
 | true :: fs,a :: as,k,p,hp=>by
   rcases cn.mp hp with z | z
   · subst z; exact ⟨dH _,by simp⟩
   · obtain ⟨h1,h2⟩:=lH (fs:=fs) (as:=as) (k:=k+1) p z
     refine ⟨by omega,?_⟩
     have:p.1 - k=(p.1 - (k+1))+1:=by omega
     rw [this]; simpa using h2
 | true :: fs,[],k,p,hp=>by
   obtain ⟨h1,h2⟩:=lH (fs:=fs) (as:=[]) (k:=k+1) p hp
   refine ⟨by omega,?_⟩
   have:p.1 - k=(p.1 - (k+1))+1:=by omega
   rw [this]; simpa using h2
theorem A5 {H:Hp} {fs:List Bool} {as Ox:List Addr} {i:Nat} (h:fs[i]?≠some true):aT ⟨H,pz fs as 0,Ox⟩ i:=fun p hp e=>by
 have:=(lH p hp).2
 rw [Nat.sub_zero,e] at this
 exact h this
theorem mE (lo:Int) (n:Nat):(rangeT lo n).length=n:=by unfold rangeT; rw [bU,CB]
theorem mG {lo:Int} {n i:Nat} {t:T} (h:(rangeT lo n)[i]?=some t):i < n∧t = .int (lo+(i:Int)):=by
 unfold rangeT at h
 rw [oa] at h
 cases e:(List.range n)[i]? with
 | none=>rw [e] at h; cases h
 | some j =>
   rw [e] at h
   obtain ⟨h1,h2⟩:=h9.mp e
   rw [List.getElem_range] at h2
   rw [CB] at h1
   subst h2
   cases h
   exact ⟨h1,rfl⟩
theorem eI {lo:Int} {n:Nat} {h:FG} {g:FS} {d:HV} {ρ:En} (Pv:Nat→En→Prop) (h0:Pv 0 ρ) (hs:∀ (i:Nat) ρ',i < n→Pv i ρ'→h (.int (lo+(i:Int))) ρ' fun ρ2=>g { nx:=Pv (i+1),ct:=Pv (i+1),bk:=d.nx,rt:=d.rt } ρ2)
 (hd:∀ ρ',Pv n ρ'→d.nx ρ'):i8 (rangeT lo n) h g d ρ:=⟨Pv,h0,fun i t ρ' e p=>by obtain ⟨h1,rfl⟩:=mG e; exact hs i ρ' h1 p,fun ρ' p=>hd ρ' (by rw [mE] at p; exact p)⟩
theorem gO {α:Type} {f:α→T} {xs:List α} {h:FG} {g:FS} {d:HV} {ρ:En} (Pv:Nat→En→Prop) (h0:Pv 0 ρ) (hs:∀ (i:Nat) x ρ',xs[i]?=some x→Pv i ρ'→h (f x) ρ' fun ρ2=>g { nx:=Pv (i+1),ct:=Pv (i+1),bk:=d.nx,rt:=d.rt } ρ2)
 (hd:∀ ρ',Pv xs.length ρ'→d.nx ρ'):i8 (xs.map f) h g d ρ:=⟨Pv,h0,fun i t ρ' e p=>by
   rw [oa] at e
   cases q:xs[i]? with
   | none=>rw [q] at e; cases e
   | some x=>rw [q] at e; cases e; exact hs i x ρ' q p,fun ρ' p=>hd ρ' (by rw [bU] at p; exact p)⟩
theorem yu {c:Bool} {A B:Prop} (hc:c=true) (h:A):if c=true then A else B:=by rw [if_pos hc]; exact h
theorem d5 {c:Bool} {A B:Prop} (hc:c=false) (h:B):if c=true then A else B:=by rw [if_neg (by rw [hc]; exact iS)]; exact h
theorem cg {c A B:Prop} [Decidable c] (h1:c→A) (h2:¬ c→B):if decide c=true then A else B:=by
 by_cases h:c
 · rw [if_pos (decide_eq_true h)]; exact h1 h
 · rw [if_neg (by rw [decide_eq_false h]; exact iS)]; exact h2 h
section
variable {prog:Program} {w:World} {A:Around} {E:Value→Shared→Prop} {s:Shared}
theorem jd {it t:Addr} {i:Nat} {items:Array Value} {x:Value} {Q:Value→Shared→Prop} (hit:s.heap.IsTupleIter it t i) (ht:s.heap.IsTuple t items) (hx:items[i]?=some x)
  (hQ:∀ h',h'.IsTupleIter it t (i+1)→Heap.SameBut it s.heap h'→Q x { s with heap:=h' }):wpAny (model prog w) A (Builtin.SmallTypes.nextOf (.ref it)) Q E s:=by
 obtain ⟨o,ho,hc,hd⟩:=id hit
 obtain ⟨ol,DZ,_,nl,D_⟩:=ht
 unfold Builtin.SmallTypes.nextOf
 refine wpAny_bind (wpAny_callSpecial?_slot (name:=Str.ofString "__next__") hit.typeIs PL
  (wpAny_call_entry PL hit.typeIs F.entry_tuple_iterator_next ?_ (F.args_tuple_iterator_next_1 _)))
 show wpAny _ _ (field (.ref it) 0 >>= _) _ _ s
 refine wpAny_bind (wpAny_field ho hd (x:=.ref t) rfl ?_)
 show wpAny _ _ (if (Value.ref t == Value.none)=true then _ else _) _ _ s
 rw [if_neg (show ¬ ((Value.ref t == Value.none)=true) from iS)]
 show wpAny _ _ (field (.ref it) 1 >>= _) _ _ s
 refine wpAny_bind (wpAny_field ho hd (x:=.int i 0) rfl ?_)
 show wpAny _ _ (seqItems? (.ref t) >>= _) _ _ s
 refine wpAny_bind (wpAny_seqItems DZ D_ ?_)
 simp only [Fy,hx]
 refine wpAny_bind (wpAny_setField ho hd (by simp) (wpAny_pure ⟨x,rfl,wpAny_pure (hQ _ ?_ (Heap.SameBut.update ..))⟩))
 exact ⟨_,Heap.get?_update_self _ ho (Obj.isFreed_of_fields (Obj.data_mapFields hd _)),(Obj.cls_mapFields ..).trans hc,by
  rw [Obj.data_mapFields hd]; simp [rawInt]⟩
theorem j' {it t:Addr} {i:Nat} {items:Array Value} {Q:Value→Shared→Prop} (hh:A.handled=none) (hit:s.heap.IsTupleIter it t i) (ht:s.heap.IsTuple t items) (hx:items[i]?=none)
  (hE:∀ h' e,Heap.ExtBut it s.heap h'→(∃ o,h'.get? e=some o∧o.cls = .type "StopIteration")→E (.ref e) { s with heap:=h' }):wpAny (model prog w) A (Builtin.SmallTypes.nextOf (.ref it)) Q E s:=by
 obtain ⟨o,ho,hc,hd⟩:=id hit
 obtain ⟨ol,DZ,_,nl,D_⟩:=ht
 unfold Builtin.SmallTypes.nextOf
 refine wpAny_bind (wpAny_callSpecial?_slot (name:=Str.ofString "__next__") hit.typeIs PL
  (wpAny_call_entry PL hit.typeIs F.entry_tuple_iterator_next ?_ (F.args_tuple_iterator_next_1 _)))
 show wpAny _ _ (field (.ref it) 0 >>= _) _ _ s
 refine wpAny_bind (wpAny_field ho hd (x:=.ref t) rfl ?_)
 show wpAny _ _ (if (Value.ref t == Value.none)=true then _ else _) _ _ s
 rw [if_neg (show ¬ ((Value.ref t == Value.none)=true) from iS)]
 show wpAny _ _ (field (.ref it) 1 >>= _) _ _ s
 refine wpAny_bind (wpAny_field ho hd (x:=.int i 0) rfl ?_)
 show wpAny _ _ (seqItems? (.ref t) >>= _) _ _ s
 refine wpAny_bind (wpAny_seqItems DZ D_ ?_)
 simp only [Fy,hx]
 refine wpAny_bind (wpAny_rule (wpAny_bind (wpAny_setField ho hd (by simp) ?_)))
 show wpAny _ _ (newExc (.type "StopIteration") [] >>= _) _ _ _
 refine wpAny_bind ?_
 simp only [newExc,newTuple]
 refine wpAny_bind (wpAny_newObj_type ?_ (by size_fits))
 refine wpAny_bind (m:=firstArgMember _ _) (wpAny_of_eq (a:=Value.none) (by first | rfl | (simp only [firstArgMember]; rfl)) ?_)
 refine wpAny_newObj_type ?_ (by size_fits)
 simp only [raiseNew]
 refine wpAny_bind (wpAny_handled ?_)
 first | rw [show A.in1.handled=none from hh] | rw [hh]
 refine wpAny_bind (wpAny_pure (wpAny_throw ?_))
 exact hE _ _ (((Heap.SameBut.update ..).extBut.push _).push _) ⟨_,ly _ rfl,rfl⟩
end
structure Part (prog:Program) (w:World) (i:Addr) (fp:List Addr) (n:Nat) (Pv:Nat→Value→Prop) (st:Nat→Heap→Prop):Prop where
 draws:∀ A:Around,A.handled=none→Draws prog w A i fp n Pv st
 mem:i∈fp
 fld:∀ k h,st k h→∃ o vs,h.get? i=some o∧o.data = .fields vs
theorem yw {prog:Program} {w:World} (it l:Addr) (iE:l≠it) (items:Array Value):Part prog w it [it,l] items.size (fun i v=>items[i]?=some v) (fun i h=>h.IsListIter it l i∧h.IsList l items) :=
 ⟨fun A hh=>Draws.list hh it l iE items,by simp,fun k h st=>let ⟨⟨o,e,_,d⟩,_⟩:=st; ⟨o,_,e,d⟩⟩
theorem vn {prog:Program} {w:World} (it l:Addr) (iE:l≠it) (items:Array Value):Part prog w it [it,l] items.size (fun i v=>items[i]?=some v) (fun i h=>h.IsTupleIter it l i∧h.IsTuple l items) :=
 ⟨fun A hh=>{ live:=fun _ _ st=>let ⟨o,ho,_⟩:=st.1; ⟨o,ho⟩
              frame:=fun _ _ _ st hk=>⟨let ⟨o,ho,r⟩:=st.1; ⟨o,hk it (by simp) o ho,r⟩,let ⟨o,ho,r⟩:=st.2; ⟨o,hk l (by simp) o ho,r⟩⟩
              item:=fun i s Q E hi st hQ=>jd st.1 st.2 (x:=items[i]) (by simp [hi]) fun h' Sv Qp=>hQ _ h' s.toks (by simp [hi]) ⟨Sv,st.2.extBut Qp.extBut iE⟩ Qp
              done:=fun s Q E st hE=>j' hh st.1 st.2 (by simp) hE },by simp,fun k h st=>let ⟨⟨o,e,_,d⟩,_⟩:=st; ⟨o,_,e,d⟩⟩
theorem A6 {prog:Program} {w:World} (it:Addr) (x:Str) (t:Tok):Part prog w it [it] x.cps.size (fun i v=>∃ c u,x.cps[i]?=some c∧v = .str ⟨#[c]⟩ u) (fun i h=>h.IsStrIter it (strIterType x) x t i):=by
 rcases cO x with z | z
 · rw [z]; exact ⟨fun A hh=>Draws.strAscii hh it x t,by simp,fun k h st=>let ⟨o,e,_,d⟩:=st; ⟨o,_,e,d⟩⟩
 · rw [z]; exact ⟨fun A hh=>Draws.strWide hh it x t,by simp,fun k h st=>let ⟨o,e,_,d⟩:=st; ⟨o,_,e,d⟩⟩
structure Apart (z TI TO i1 i2:Addr) (mI lJ:List Addr):Prop where
 TIz:TI≠z
 TOz:TO≠z
 i1z:i1≠z
 i2z:i2≠z
 TITO:TI≠TO
 TIi1:TI≠i1
 TIi2:TI≠i2
 TOi1:TO≠i1
 TOi2:TO≠i2
 i12:i1≠i2
 z1:z∉mI
 z2:z∉lJ
 O1:TO∉mI
 O2:TO∉lJ
 x1:i2∉mI
 x2:i1∉lJ
section
variable {prog:Program} {w:World} {A:Around} {E:Value→Shared→Prop} {s:Shared} {z TI TO i1 i2:Addr} {mI lJ:List Addr} {n1 n2:Nat} {P1 P2:Nat→Value→Prop} {S1 S2:Nat→Heap→Prop}
theorem A7 {k:Nat} {a b:Value} {Q:Value→Shared→Prop} (hh:A.handled=none) (D:Apart z TI TO i1 i2 mI lJ) (p1:Part prog w i1 mI n1 P1 S1) (p2:Part prog w i2 lJ n2 P2 S2)
  (hz:IsZip s.heap z TI TO .none) (D':IsPair s.heap TI (.ref i1) (.ref i2)) (Ea:IsPair s.heap TO a b) (h1:S1 k s.heap) (h2:S2 k s.heap) (hx:k < n1) (hy:k < n2)
  (hQ:∀ x y h' tk,P1 k x→P2 k y→IsZip h' z TI TO (rawInt s.heap.objs.size)→IsPair h' TO x y→S1 (k+1) h'→S2 (k+1) h'→IsPair h' s.heap.objs.size x y→h'.objs.size=s.heap.objs.size+1 →
    (∀ c o,c≠z→c≠TO→c≠i1→c≠i2→s.heap.get? c=some o→h'.get? c=some o)→Q (.ref s.heap.objs.size) { s with heap:=h',toks:=tk }) :
  wpAny (model prog w) A (Builtin.«zip.__next__» ⟨[.ref z],[]⟩) (fun fin s'=>∃ v,fin = .done (.ret v)∧Q v s') E s:=by
 show wpAny _ _ (field (.ref z) 2 >>= _) _ _ _
 refine wpAny_bind (wpAny_field hz rfl (x:=.bool false) rfl ?_)
 show wpAny _ _ (field (.ref z) 3 >>= _) _ _ _
 refine wpAny_bind (wpAny_field hz rfl (x:=.ref TI) rfl ?_)
 refine wpAny_bind (wpAny_seqItems D' rfl ?_)
 show wpAny _ _ (Builtin.SmallTypes.ownedTupleIsFree (.ref z) >>= _) _ _ _
 refine wpAny_bind ?_
 unfold Builtin.SmallTypes.ownedTupleIsFree
 refine wpAny_bind (wpAny_field hz rfl (x:=.none) rfl (wpAny_pure ?_))
 simp only [if_true]
 refine wpAny_bind (wpAny_rule ?_)
 refine wpAny_bind (wpAny_field hz rfl (x:=.ref TO) rfl ?_)
 refine wpAny_bind (wpAny_setField_rec hz (by simp) fun h₁ AF zV=>?_)
 replace AF:IsZip h₁ z TI TO .ellipsis:=AF
 refine wpAny_bind ?_
 simp only [List.zipIdx_cons,List.zipIdx_nil,List.forIn_cons,List.forIn_nil]
 have f1:∀ {m h h' c},c∉mI→S1 m h→Heap.SameBut c h h'→S1 m h':=fun {m h h' c} hc st sb=>(p1.draws A hh).frame m h h' st fun b hb o e=>sb.extBut b o (fun q=>hc (q▸hb)) e
 have f2:∀ {m h h' c},c∉lJ→S2 m h→Heap.SameBut c h h'→S2 m h':=fun {m h h' c} hc st sb=>(p2.draws A hh).frame m h h' st fun b hb o e=>sb.extBut b o (fun q=>hc (q▸hb)) e
 refine wpAny_bind (wpAny_bind (wpAny_onRaise ?_))
 show wpAny _ _ (Builtin.SmallTypes.nextOf (.ref i1) >>= _) _ _ _
 refine wpAny_bind ((p1.draws _ hh).item k _ _ _ hx (f1 D.z1 h1 zV) fun x h₂ WS px Vl oq=>wpAny_pure ?_)
 replace oq:Heap.SameBut i1 h₁ h₂:=oq
 have A8:IsPair h₂ TO a b:=oq.extBut _ _ D.TOi1 (zV.extBut _ _ D.TOz Ea)
 refine wpAny_bind (wpAny_seqItems A8 rfl ?_)
 refine wpAny_bind (wpAny_updateSeq_pair A8 fun h₃ Eb uK=>?_)
 replace Eb:IsPair h₃ TO x b:=Eb
 replace uK:Heap.SameBut TO h₂ h₃:=uK
 refine wpAny_bind (wpAny_letGo (wpAny_pure ?_))
 refine wpAny_bind (wpAny_bind (wpAny_onRaise ?_))
 show wpAny _ _ (Builtin.SmallTypes.nextOf (.ref i2) >>= _) _ _ _
 refine wpAny_bind ((p2.draws _ hh).item k _ _ _ hy (f2 D.O2 (f2 D.x2 (f2 D.z2 h2 zV) oq) uK) fun y h₄ WT py WU CM=>wpAny_pure ?_)
 replace CM:Heap.SameBut i2 h₃ h₄:=CM
 have MI:IsPair h₄ TO x b:=CM.extBut _ _ D.TOi2 Eb
 refine wpAny_bind (wpAny_seqItems MI rfl ?_)
 refine wpAny_bind (wpAny_updateSeq_pair MI fun h₅ Ec CN=>?_)
 replace Ec:IsPair h₅ TO x y:=Ec
 replace CN:Heap.SameBut TO h₄ h₅:=CN
 refine wpAny_bind (wpAny_letGo (wpAny_pure (wpAny_pure ?_)))
 refine wpAny_bind (wpAny_seqItems Ec rfl ?_)
 refine wpAny_bind (wpAny_newTuple ?_)
 have zP:h₅.objs.size=s.heap.objs.size:=by rw [CN.1,CM.1,uK.1,oq.1,zV.1]
 have Vm:IsZip h₅ z TI TO .ellipsis:=CN.extBut _ _ D.TOz.symm (CM.extBut _ _ D.i2z.symm (uK.extBut _ _ D.TOz.symm (oq.extBut _ _ D.i1z.symm AF)))
 have WV:∀ c o,c≠z→c≠TO→c≠i1→c≠i2→s.heap.get? c=some o→h₅.get? c=some o:=fun c o c1 c2 c3 c4 e =>
  CN.extBut _ _ c2 (CM.extBut _ _ c4 (uK.extBut _ _ c2 (oq.extBut _ _ c3 (zV.extBut _ _ c1 e))))
 have WW:S1 (k+1) h₅:=f1 D.O1 (f1 D.x1 (f1 D.O1 Vl uK) CM) CN
 have WX:S2 (k+1) h₅:=f2 D.O2 WU CN
 have MJ:z < h₅.objs.size:=er Vm
 show wpAny _ _ (Builtin.SmallTypes.ownedTupleHandOut (.ref z) (.ref h₅.objs.size) >>= _) _ _ _
 refine wpAny_bind ?_
 unfold Builtin.SmallTypes.ownedTupleHandOut
 have WY:IsZip (h₅.push { cls:=.type "tuple",data:=.seq #[x,y] }) z TI TO .ellipsis:=d_ _ Vm
 refine wpAny_bind (wpAny_setField_rec WY (by simp) fun h₇ Sw Sx=>?_)
 replace Sw:IsZip h₇ z TI TO (rawInt h₅.objs.size):=Sw
 refine wpAny_setField_rec Sw (by simp) fun h₈ Qq Sy=>?_
 replace Qq:IsZip h₈ z TI TO (rawInt h₅.objs.size):=Qq
 have up:∀ c o,c≠z→h₅.get? c=some o→h₈.get? c=some o:=fun c o c1 e=>Sy.extBut _ _ c1 (Sx.extBut _ _ c1 (d_ _ e))
 have Vn:IsPair h₈ h₅.objs.size x y:=Sy.extBut _ _ (CD MJ) (Sx.extBut _ _ (CD MJ) (ly _ rfl))
 have Vo:h₈.objs.size=h₅.objs.size+1:=by rw [Sy.1,Sx.1,uP]
 have WZ:S1 (k+1) h₈:=(p1.draws A hh).frame _ _ _ WW fun b hb o e=>up b o (fun q=>D.z1 (q▸hb)) e
 have W0:S2 (k+1) h₈:=(p2.draws A hh).frame _ _ _ WX fun b hb o e=>up b o (fun q=>D.z2 (q▸hb)) e
 rw [zP] at Qq Vn Vo
 refine wpAny_pure ⟨_,rfl,?_⟩
 show Q (.ref h₅.objs.size) _
 rw [zP]
 exact hQ x y h₈ WT px py Qq (up _ _ D.TOz Ec) WZ W0 Vn Vo fun c o c1 c2 c3 c4 e=>up c o c1 (WV c o c1 c2 c3 c4 e)
theorem Ed {k:Nat} {a b:Value} {Q:PySem.Fin→Shared→Prop} (hh:A.handled=none) (D:Apart z TI TO i1 i2 mI lJ) (p1:Part prog w i1 mI n1 P1 S1) (p2:Part prog w i2 lJ n2 P2 S2)
  (hz:IsZip s.heap z TI TO .none) (D':IsPair s.heap TI (.ref i1) (.ref i2)) (Ea:IsPair s.heap TO a b) (h1:S1 k s.heap) (h2:S2 k s.heap) (Iu:k=n1∨(k < n1∧k=n2))
  (hE:∀ h' tk e,(∀ c o,c≠z→c≠TO→c≠i1→c≠i2→s.heap.get? c=some o→h'.get? c=some o)→(∃ o,h'.get? e=some o∧o.cls = .type "StopIteration")→E (.ref e) { s with heap:=h',toks:=tk }) :
  wpAny (model prog w) A (Builtin.«zip.__next__» ⟨[.ref z],[]⟩) Q E s:=by
 have f1:∀ {m h h' c},c∉mI→S1 m h→Heap.SameBut c h h'→S1 m h':=fun {m h h' c} hc st sb=>(p1.draws A hh).frame m h h' st fun b hb o e=>sb.extBut b o (fun q=>hc (q▸hb)) e
 have f2:∀ {m h h' c},c∉lJ→S2 m h→Heap.SameBut c h h'→S2 m h':=fun {m h h' c} hc st sb=>(p2.draws A hh).frame m h h' st fun b hb o e=>sb.extBut b o (fun q=>hc (q▸hb)) e
 show wpAny _ _ (field (.ref z) 2 >>= _) _ _ _
 refine wpAny_bind (wpAny_field hz rfl (x:=.bool false) rfl ?_)
 show wpAny _ _ (field (.ref z) 3 >>= _) _ _ _
 refine wpAny_bind (wpAny_field hz rfl (x:=.ref TI) rfl ?_)
 refine wpAny_bind (wpAny_seqItems D' rfl ?_)
 show wpAny _ _ (Builtin.SmallTypes.ownedTupleIsFree (.ref z) >>= _) _ _ _
 refine wpAny_bind ?_
 unfold Builtin.SmallTypes.ownedTupleIsFree
 refine wpAny_bind (wpAny_field hz rfl (x:=.none) rfl (wpAny_pure ?_))
 simp only [if_true]
 refine wpAny_bind (wpAny_rule ?_)
 refine wpAny_bind (wpAny_field hz rfl (x:=.ref TO) rfl ?_)
 refine wpAny_bind (wpAny_setField_rec hz (by simp) fun h₁ AF zV=>?_)
 replace AF:IsZip h₁ z TI TO .ellipsis:=AF
 refine wpAny_bind ?_
 simp only [List.zipIdx_cons,List.zipIdx_nil,List.forIn_cons,List.forIn_nil]
 refine wpAny_bind (wpAny_bind (wpAny_onRaise ?_))
 show wpAny _ _ (Builtin.SmallTypes.nextOf (.ref i1) >>= _) _ _ _
 rcases Iu with rfl | ⟨fz,rfl⟩
 · refine wpAny_bind ((p1.draws _ hh).done _ _ _ (f1 D.z1 h1 zV) fun h₂ e oq he=>?_)
   obtain ⟨oe,Iv,MK⟩:=he
   have Qr:IsZip h₂ z TI TO .ellipsis:=oq _ _ D.i1z.symm AF
   have Sz:e≠z:=fun x=>by subst x; rw [Qr] at Iv; cases Iv; simp at MK
   refine wpAny_setField_rec Qr (by simp) fun h₃ _ uK=>hE h₃ _ e (fun c o c1 _ c3 _ x=>uK.extBut _ _ c1 (oq _ _ c3 (zV.extBut _ _ c1 x))) ⟨oe,uK.extBut _ _ Sz Iv,MK⟩
 · refine wpAny_bind ((p1.draws _ hh).item k _ _ _ fz (f1 D.z1 h1 zV) fun x h₂ WS px Vl oq=>wpAny_pure ?_)
   replace oq:Heap.SameBut i1 h₁ h₂:=oq
   have A8:IsPair h₂ TO a b:=oq.extBut _ _ D.TOi1 (zV.extBut _ _ D.TOz Ea)
   refine wpAny_bind (wpAny_seqItems A8 rfl ?_)
   refine wpAny_bind (wpAny_updateSeq_pair A8 fun h₃ Eb uK=>?_)
   replace uK:Heap.SameBut TO h₂ h₃:=uK
   refine wpAny_bind (wpAny_letGo (wpAny_pure ?_))
   refine wpAny_bind (wpAny_bind (wpAny_onRaise ?_))
   show wpAny _ _ (Builtin.SmallTypes.nextOf (.ref i2) >>= _) _ _ _
   refine wpAny_bind ((p2.draws _ hh).done _ _ _ (f2 D.O2 (f2 D.x2 (f2 D.z2 h2 zV) oq) uK) fun h₄ e CM he=>?_)
   obtain ⟨oe,Iv,MK⟩:=he
   have Vp:IsZip h₄ z TI TO .ellipsis:=CM _ _ D.i2z.symm (uK.extBut _ _ D.TOz.symm (oq.extBut _ _ D.i1z.symm AF))
   have Sz:e≠z:=fun x=>by subst x; rw [Vp] at Iv; cases Iv; simp at MK
   refine wpAny_setField_rec Vp (by simp) fun h₅ _ CN=>hE h₅ _ e (fun c o c1 c2 c3 c4 x=>CN.extBut _ _ c1 (CM _ _ c4 (uK.extBut _ _ c2 (oq.extBut _ _ c3 (zV.extBut _ _ c1 x))))) ⟨oe,CN.extBut _ _ Sz Iv,MK⟩
theorem k4 {k:Nat} {a b:Value} {Q:Option Value→Shared→Prop} (hh:A.handled=none) (D:Apart z TI TO i1 i2 mI lJ) (p1:Part prog w i1 mI n1 P1 S1) (p2:Part prog w i2 lJ n2 P2 S2)
  (hz:IsZip s.heap z TI TO .none) (D':IsPair s.heap TI (.ref i1) (.ref i2)) (Ea:IsPair s.heap TO a b) (h1:S1 k s.heap) (h2:S2 k s.heap) (hx:k < n1) (hy:k < n2)
  (hQ:∀ x y h' tk,P1 k x→P2 k y→IsZip h' z TI TO (rawInt s.heap.objs.size)→IsPair h' TO x y→S1 (k+1) h'→S2 (k+1) h'→IsPair h' s.heap.objs.size x y→h'.objs.size=s.heap.objs.size+1 →
    (∀ c o,c≠z→c≠TO→c≠i1→c≠i2→s.heap.get? c=some o→h'.get? c=some o)→Q (some (.ref s.heap.objs.size)) { s with heap:=h',toks:=tk }):wpAny (model prog w) A (pyNext (.ref z)) Q E s:=by
 have hT:s.TypeIs (.ref z) "zip":=⟨_,hz,rfl⟩
 unfold pyNext
 exact wpAny_bind (wpAny_attempt (wpAny_callSpecial?_slot (name:=Str.ofString "__next__") hT F.slot_zip_next
  (wpAny_call_entry F.slot_zip_next hT F.entry_zip_next
    (A7 hh D p1 p2 hz D' Ea h1 h2 hx hy fun x y h' tk q1 q2 a1 a2 a3 a4 a5 a6 a7=>wpAny_pure (hQ x y h' tk q1 q2 a1 a2 a3 a4 a5 a6 a7)) (F.args_zip_next_1 _))))
theorem mJ {k:Nat} {a b:Value} {Q:Option Value→Shared→Prop} (hh:A.handled=none) (D:Apart z TI TO i1 i2 mI lJ) (p1:Part prog w i1 mI n1 P1 S1) (p2:Part prog w i2 lJ n2 P2 S2)
  (hz:IsZip s.heap z TI TO .none) (D':IsPair s.heap TI (.ref i1) (.ref i2)) (Ea:IsPair s.heap TO a b) (h1:S1 k s.heap) (h2:S2 k s.heap) (Iu:k=n1∨(k < n1∧k=n2))
  (hQ:∀ h' tk,(∀ c o,c≠z→c≠TO→c≠i1→c≠i2→s.heap.get? c=some o→h'.get? c=some o)→Q none { s with heap:=h',toks:=tk }):wpAny (model prog w) A (pyNext (.ref z)) Q E s:=by
 have hT:s.TypeIs (.ref z) "zip":=⟨_,hz,rfl⟩
 unfold pyNext
 refine wpAny_bind (wpAny_attempt (wpAny_callSpecial?_slot (name:=Str.ofString "__next__") hT F.slot_zip_next
  (wpAny_call_entry F.slot_zip_next hT F.entry_zip_next (Ed hh D p1 p2 hz D' Ea h1 h2 Iu fun h' tk e hk he=>?_) (F.args_zip_next_1 _))))
 obtain ⟨o,ho,hc⟩:=he
 refine wpAny_bind (wpAny_isInstance (T:="StopIteration") (b:=true) ⟨o,ho,hc⟩ isSubtype_stop ?_)
 exact wpAny_pure (hQ _ _ hk)
end
def SA (i:Int):Prop:=i.natAbs < 2 ^ 2000
theorem SA.of {i:Int} (h1 : -(10 ^ 200)≤i) (h2:i≤10 ^ 200):SA i:=by
 unfold SA
 have e:(10:Nat) ^ 200 < 2 ^ 2000:=by decide
 have:i.natAbs≤10 ^ 200:=by
  have e2:((10 ^ 200:Nat):Int)=(10:Int) ^ 200:=by rw [Int.natCast_pow]; rfl
  generalize (10:Nat) ^ 200=m at *
  rw [← e2] at h1 h2
  omega
 exact Nat.lt_of_le_of_lt this e
section
variable {X:Cx}
end
section
variable {X:Cx} {Z:Zc} {a b:Expr} {fa fb:FE} {pos:Pos}
end
def gQ (v:Value) (o:Obj) (c:Heap→Prop):Prop:=∀ (prog:Program) (w:World) (A:Around) (E:Value→Shared→Prop) (s:Shared) (Q:Value→Shared→Prop),c s.heap →
 Q (.ref s.heap.objs.size) { s with heap:=s.heap.push o }→wpAny (model prog w) A (pyIter v) Q E s
theorem sW (l:Addr) (items:Array Value):gQ (.ref l) { cls:=.type "list_iterator",data:=.fields #[.ref l,.int 0 0] } (fun h=>h.IsList l items):=fun _ _ _ _ _ _ h q=>wpAny_pyIter_list h q
theorem qK (l:Addr) (items:Array Value):gQ (.ref l) { cls:=.type "tuple_iterator",data:=.fields #[.ref l,.int 0 0] } (fun h=>h.IsTuple l items):=fun _ _ _ _ _ _ h q=>wpAny_pyIter_tuple h q
theorem vo (x:Str) (t:Tok):gQ (.str x t) { cls:=.type (strIterType x),data:=.fields #[.str x t,.int 0 0] } (fun _=>True):=fun _ _ _ _ _ _ _ q=>wpAny_pyIter_strU q
abbrev Qs (h:Heap) (o1 o2:Obj):Heap:=((h.push o1).push o2).push { cls:=.type "tuple",data:=.seq #[.ref h.objs.size,.ref (h.push o1).objs.size] }
abbrev Qt (h:Heap) (o1 o2:Obj):Heap:=(Qs h o1 o2).push { cls:=.type "tuple",data:=.seq #[.none,.none] }
abbrev Iw (h:Heap) (o1 o2:Obj):Heap:=(Qt h o1 o2).push { cls:=.type "zip",data:=.fields #[.none,.bool false,.bool false,.ref ((h.push o1).push o2).objs.size,.ref (Qs h o1 o2).objs.size] }
theorem vq {v1 v2:Value} {o1 o2:Obj} {c1 c2:Heap→Prop} (i1:gQ v1 o1 c1) (i2:gQ v2 o2 c2) (Iy:∀ h o,c2 h→c2 (h.push o)) :
  Meets (Builtin.«zip.__new__» ⟨[.type "zip",v1,v2],[]⟩) (fun _ R s=>c1 s.heap∧c2 s.heap ∧
   R (.ok (.ret (.ref (Qt s.heap o1 o2).objs.size))) { s with heap:=Iw s.heap o1 o2 }) :=
 .of_wp fun prog w A R s h=>by
  obtain ⟨hp,g,d,tk,os⟩:=s; obtain ⟨SD,zR,h⟩:=h
  have A9:=sub_zip
  have W2:=Iy _ o1 zR
  have I1:∀ (A:Around) (E:Value→Shared→Prop) (Q:Value→Shared→Prop),Q (.ref hp.objs.size) ⟨hp.push o1,g,d,tk,os⟩→wpAny (model prog w) A (pyIter v1) Q E ⟨hp,g,d,tk,os⟩:=fun A E Q q=>i1 prog w A E _ Q SD q
  have I2:∀ (A:Around) (E:Value→Shared→Prop) (Q:Value→Shared→Prop),Q (.ref (hp.push o1).objs.size) ⟨(hp.push o1).push o2,g,d,tk,os⟩→wpAny (model prog w) A (pyIter v2) Q E ⟨hp.push o1,g,d,tk,os⟩:=fun A E Q q=>i2 prog w A E _ Q W2 q
  wp_walk using I1,I2
  exact ⟨_,rfl,h⟩
section
variable {prog:Program} {w:World} {A:Around} {E:Value→Shared→Prop} {s:Shared}
theorem yx {v1 v2:Value} {o1 o2:Obj} {c1 c2:Heap→Prop} {Q:Value→Shared→Prop} (i1:gQ v1 o1 c1) (i2:gQ v2 o2 c2) (Iy:∀ h o,c2 h→c2 (h.push o)) (h1:c1 s.heap) (h2:c2 s.heap) (SE:o1.isFreed=false) (SF:o2.isFreed=false)
  (h:∀ h',IsZip h' (s.heap.objs.size+4) (s.heap.objs.size+2) (s.heap.objs.size+3) .none→IsPair h' (s.heap.objs.size+2) (.ref s.heap.objs.size) (.ref (s.heap.objs.size+1)) →
    IsPair h' (s.heap.objs.size+3) .none .none→h'.get? s.heap.objs.size=some o1→h'.get? (s.heap.objs.size+1)=some o2→h'.objs.size=s.heap.objs.size+5 →
    (∀ c o,s.heap.get? c=some o→h'.get? c=some o)→Q (.ref (s.heap.objs.size+4)) { s with heap:=h' }) :
  wpAny (model prog w) A (call (.type "zip") [v1,v2]) Q E s:=by
 refine callType_new F.called_zip (by decide) (F.typeCall_zip_2 _ _) (F.newCall_zip_2 _ _) (fun obj=>F.args_object_init_3 obj _ _) F.entry_zip_new
  (vq i1 i2 Iy) ⟨h1,h2,?_⟩
 have z1:(s.heap.push o1).objs.size=s.heap.objs.size+1:=uP ..
 have z2:((s.heap.push o1).push o2).objs.size=s.heap.objs.size+2:=by rw [uP,z1]
 have z3:(Qs s.heap o1 o2).objs.size=s.heap.objs.size+3:=by rw [uP,z2]
 have z4:(Qt s.heap o1 o2).objs.size=s.heap.objs.size+4:=by rw [uP,z3]
 have z5:(Iw s.heap o1 o2).objs.size=s.heap.objs.size+5:=by rw [uP,z4]
 have g5:(Iw s.heap o1 o2).get? (Qt s.heap o1 o2).objs.size=some _:=ly _ rfl
 have g4:(Iw s.heap o1 o2).get? (Qs s.heap o1 o2).objs.size=some _:=d_ _ (ly _ rfl)
 have g3:(Iw s.heap o1 o2).get? ((s.heap.push o1).push o2).objs.size=some _:=d_ _ (d_ _ (ly _ rfl))
 have g2:(Iw s.heap o1 o2).get? (s.heap.push o1).objs.size=some _:=d_ _ (d_ _ (d_ _ (ly _ SF)))
 have g1:(Iw s.heap o1 o2).get? s.heap.objs.size=some _:=d_ _ (d_ _ (d_ _ (d_ _ (ly _ SE))))
 show _∧_
 rw [z2,z3,z4] at g5
 rw [z1,z2] at g3
 rw [z3] at g4
 rw [z1] at g2
 rw [z4]
 exact ⟨⟨_,g5,rfl⟩,h _ g5 g3 g4 g1 g2 z5 fun c o x =>
  d_ _ (d_ _ (d_ _ (d_ _ (d_ _ x))))⟩
end
structure yy (P:Program) (w:World) (K:PySem.W.Frag) (i:Addr) (fp:List Addr) (sq:Hp→List V→Prop) (it:Nat→Heap→Prop):Prop where
 part:∀ (X:Cx) (pins:List (Addr×Obj)) (σ:St) (H:Hp) (s:Shared),X.prog=P→X.w=w→X.K=K→Inv X pins σ H s→∀ xs,sq H xs →
  ∃ (Pv:Nat→Value→Prop) (S:Nat→Heap→Prop),Part P w i fp xs.length Pv S∧(∀ k v,Pv k v→∃ x,xs[k]?=some x∧RelV x v)∧(∀ k h,S k h→it k h)∧∀ k,it k s.heap→S k s.heap
 keep:∀ k h h',it k h→(∀ o,h.get? i=some o→h'.get? i=some o)→it k h'
 obj:∀ k h,it k h→∃ o,h.get? i=some o∧∀ v,o.data≠.cell v
 inj:∀ (X:Cx) (pins:List (Addr×Obj)) (σ:St) (H:Hp) (s:Shared),X.K=K→Inv X pins σ H s→∀ xs ys,sq H xs→sq H ys→xs=ys
theorem src_list {P:Program} {w:World} {K:PySem.W.Frag} (i l:Addr) (iE:l≠i):yy P w K i [i,l] (fun H xs=>eB K H l xs) (fun k h=>h.IsListIter i l k) where
 part:=fun X pins σ H s hP hw hK I xs hq=>by
  subst hP hw hK
  obtain ⟨aJ,rv,p,hz⟩:=I.list hq
  have e:aJ.toArray.size=xs.length:=by simp [rv.length]
  refine ⟨_,_,e▸yw i l iE aJ.toArray,fun k v hv=>?_,fun k h st=>st.1,fun k st=>⟨st,p.isList⟩⟩
  have vt:aJ[k]?=some v:=by simpa using hv
  have hk:k < xs.length:=by rw [← e]; simp; exact (h9.mp vt).1
  obtain ⟨u,hu,ru⟩:=rv.get (show xs[k]?=some xs[k] by simp)
  rw [vt] at hu
  cases hu
  exact ⟨_,by simp,ru⟩
 keep:=fun k h h' st q=>st.at q
 obj:=fun k h st=>let ⟨o,e,_,d⟩:=st; ⟨o,e,fun v z=>by rw [d] at z; cases z⟩
 inj:=fun X pins σ H s hK I xs ys h1 h2=>by subst hK; exact I.iW h1 h2
theorem src_tuple {P:Program} {w:World} {K:PySem.W.Frag} (i l:Addr) (iE:l≠i):yy P w K i [i,l] (fun H xs=>dq K H l xs) (fun k h=>h.IsTupleIter i l k) where
 part:=fun X pins σ H s hP hw hK I xs hq=>by
  subst hP hw hK
  obtain ⟨aJ,rv,p,hz⟩:=I.tuple hq
  have e:aJ.toArray.size=xs.length:=by simp [rv.length]
  refine ⟨_,_,e▸vn i l iE aJ.toArray,fun k v hv=>?_,fun k h st=>st.1,fun k st=>⟨st,p⟩⟩
  have vt:aJ[k]?=some v:=by simpa using hv
  have hk:k < xs.length:=by rw [← e]; simp; exact (h9.mp vt).1
  obtain ⟨u,hu,ru⟩:=rv.get (show xs[k]?=some xs[k] by simp)
  rw [vt] at hu
  cases hu
  exact ⟨_,by simp,ru⟩
 keep:=fun k h h' st q=>let ⟨o,e,r⟩:=st; ⟨o,q o e,r⟩
 obj:=fun k h st=>let ⟨o,e,_,d⟩:=st; ⟨o,e,fun v z=>by rw [d] at z; cases z⟩
 inj:=fun X pins σ H s hK I xs ys h1 h2=>by subst hK; exact I.jR h1 h2
def vv (x:Str):List V:=x.cps.toList.map fun c=>.str ⟨#[c]⟩
theorem Ee {P:Program} {w:World} {K:PySem.W.Frag} (i:Addr) (x:Str) (t:Tok):yy P w K i [i] (fun _ xs=>xs=vv x) (fun k h=>h.IsStrIter i (strIterType x) x t k) where
 part:=fun X pins σ H s hP hw hK I xs hq=>by
  subst hP hw hK hq
  have e:x.cps.size=(vv x).length:=by unfold vv; simp
  refine ⟨_,_,e▸A6 i x t,fun k v hv=>?_,fun k h st=>st,fun k st=>st⟩
  obtain ⟨c,u,h1,rfl⟩:=hv
  exact ⟨.str ⟨#[c]⟩,by unfold vv; rw [oa]; simp [h1],u,rfl⟩
 keep:=fun k h h' st q=>let ⟨o,e,r⟩:=st; ⟨o,q o e,r⟩
 obj:=fun k h st=>let ⟨o,e,_,d⟩:=st; ⟨o,e,fun v z=>by rw [d] at z; cases z⟩
 inj:=fun X pins σ H s hK I xs ys h1 h2=>by rw [h1,h2]
section
variable {X:Cx} {pins:List (Addr×Obj)} {σ:St} {H H':Hp} {s:Shared} {h':Heap}
theorem Ef {t':Nat} {ch:List Addr} (I:Inv X pins σ H s) (k:∀ b u,b∉ch→s.heap.get? b=some u→h'.get? b=some u) (hf:∀ b∈ch,jS X pins H b):Inv X pins σ H { s with heap:=h',toks:=t' }:=by
 have Ac:∀ b u,H b=some u→b∉ch:=fun b u e z=>by rw [(hf b z).1] at e; cases e
 refine I.step (g':=s.gens) (d':=s.drawn) (ch:=ch) (fun b hb=>?_) (fun b u _ _ hc e _=>k b u hc e) (fun b u _ _ hc e _=>⟨u.slots,k b u hc e⟩) (fun b u _ e n=>n) (fun b u hc e=>⟨u,k b u hc e⟩)
  (fun b xs e=>e) (fun b u v e=>e) (fun b ps e=>⟨#[],?_⟩) (fun m hm=>?_) (fun b u e=>?_) I.bare
 · obtain ⟨_,f1,_,f3,f4,f5⟩:=hf b hb
   exact ⟨f3,f1,f4,f5⟩
 · rw [e]; simp
 · obtain ⟨ob,es,ep,ho,r⟩:=hm
   exact ⟨ob,es,ep,k _ ob (fun z=>(hf _ z).2.1 rfl) ho,r⟩
 · refine (I.bA b u e).uQ (fun c v hc q=>k c v ?_ q) (fun c q=>q) fun c xs q=>q
   rcases hc with z | z
   · rw [z]; exact Ac b u e
   · exact Ac c _ z
end
def SG (vy vz:Hp→List V→Prop):It :=
 ⟨fun i H=>∃ xs ys,vy H xs∧vz H ys∧i < xs.length∧i < ys.length,fun i H v H'=>∃ t x y,H t=none∧v = .ref t∧(∀ xs,vy H xs→xs[i]?=some x)∧(∀ ys,vz H ys→ys[i]?=some y)∧H'=upd H t (.tup [x,y]),
   fun i H=>∃ xs ys,vy H xs∧vz H ys∧(i=xs.length∨(i < xs.length∧i=ys.length))⟩
theorem A_ {P:Program} {w:World} {K:PySem.W.Frag} {elts:List Expr} {x1} {tp:Pos} {z TI TO i1 i2:Addr} {mI lJ:List Addr} {vy vz:Hp→List V→Prop} {t1 t2:Nat→Heap→Prop} (D:Apart z TI TO i1 i2 mI lJ) (p1:yy P w K i1 mI vy t1) (p2:yy P w K i2 lJ vz t2) :
  Turn P w K (.Tuple elts x1 tp) (SG vy vz) [z,TI,TO,i1,i2] z (fun i h=>IsZip h z TI TO .none∧IsPair h TI (.ref i1) (.ref i2)∧(∃ a b,IsPair h TO a b)∧t1 i h∧t2 i h) where
 mem:=by simp
 obj:=fun i h st b hb=>by
  obtain ⟨h1,h2,⟨a,c,h3⟩,h4,h5⟩:=st
  simp only [cn,dU,or_false] at hb
  rcases hb with rfl | rfl | rfl | rfl | rfl
  · exact ⟨_,h1,fun v q=>by cases q⟩
  · exact ⟨_,h2,fun v q=>by cases q⟩
  · exact ⟨_,h3,fun v q=>by cases q⟩
  · exact p1.obj i h h4
  · exact p2.obj i h h5
 keep:=fun i h h' st k=>by
  obtain ⟨h1,h2,⟨a,c,h3⟩,h4,h5⟩:=st
  exact ⟨k z (by simp) _ h1,k TI (by simp) _ h2,⟨a,c,k TO (by simp) _ h3⟩,p1.keep i h h' h4 fun o q=>k i1 (by simp) o q,p2.keep i h h' h5 fun o q=>k i2 (by simp) o q⟩
 item:=by
  intro X hP hw hK hc i pins s σ H E I hf st hg
  obtain ⟨xs,ys,Qu,Qv,l1,l2⟩:=hg
  obtain ⟨h1,h2,⟨a,c,h3⟩,h4,h5⟩:=st
  obtain ⟨P1,S1,q1,v1,b1,f1⟩:=p1.part X pins σ H s hP hw hK I xs Qu
  obtain ⟨P2,S2,q2,v2,b2,f2⟩:=p2.part X pins σ H s hP hw hK I ys Qv
  refine k4 (I.ok.hd hc) D q1 q2 h1 h2 h3 (f1 i h4) (f2 i h5) l1 l2 fun x y h₁ tk px py AF SH s1 s2 W3 zP hk=>?_
  obtain ⟨x',ex,rx⟩:=v1 i x px
  obtain ⟨y',ey,ry⟩:=v2 i y py
  refine ⟨_,rfl,wpAny_letOwnedTupleGo_zip AF fun h₂ Qr oq=>?_⟩
  have ot:Heap.SameBut z h₁ h₂:=oq
  have fz:z < s.heap.objs.size:=er h1
  have RS:s.heap.objs.size≠z:=CD fz
  have kk:∀ b ob,b∉[z,TI,TO,i1,i2]→s.heap.get? b=some ob→h₂.get? b=some ob:=fun b ob hb q=>by
   simp only [cn,dU,or_false,not_or] at hb
   exact (ot.2 b hb.1).trans (hk b ob hb.1 hb.2.2.1 hb.2.2.2.1 hb.2.2.2.2 q)
  have new:b8 X.prog X.w (upd H s.heap.objs.size (.tup [x',y'])) h₂ s.heap.objs.size (.tup [x',y']) :=
   ⟨by show 2≤sizeLine; rw [sizeLine_eq]; decide,[x,y],.cons rx (.cons ry .nil),⟨_,(ot.2 _ RS).trans W3,rfl,_,rfl⟩⟩
  refine ⟨.ref s.heap.objs.size,upd H s.heap.objs.size (.tup [x',y']),I.grown (t':=tk) kk hf (dH _) new,rfl,⟨_,x',y',I.fresh,rfl,fun zs hz=>by rw [p1.inj X pins σ H s hK I _ _ hz Qu]; exact ex,fun zs hz=>by rw [p2.inj X pins σ H s hK I _ _ hz Qv]; exact ey,rfl⟩,⟨Qr,?_,⟨x,y,?_⟩,?_,?_⟩,fun b hb=>?_⟩
  · exact (ot.2 TI D.TIz).trans (hk TI _ D.TIz D.TITO D.TIi1 D.TIi2 h2)
  · exact (ot.2 TO D.TOz).trans SH
  · exact p1.keep _ _ _ (b1 _ _ s1) fun o q=>(ot.2 i1 D.i1z).trans q
  · exact p2.keep _ _ _ (b2 _ _ s2) fun o q=>(ot.2 i2 D.i2z).trans q
  · have RU:b < s.heap.objs.size:=by
     simp only [cn,dU,or_false] at hb
     rcases hb with rfl | rfl | rfl | rfl | rfl
     · exact fz
     · exact er h2
     · exact er h3
     · obtain ⟨o,e,_⟩:=p1.obj i _ h4; exact er e
     · obtain ⟨o,e,_⟩:=p2.obj i _ h5; exact er e
    rw [aP (ip RU)]
    exact (hf b hb).1
 done:=by
  intro X hP hw hK hc i pins s σ H E I hf st hg
  obtain ⟨xs,ys,Qu,Qv,he⟩:=hg
  obtain ⟨h1,h2,⟨a,c,h3⟩,h4,h5⟩:=st
  obtain ⟨P1,S1,q1,v1,b1,f1⟩:=p1.part X pins σ H s hP hw hK I xs Qu
  obtain ⟨P2,S2,q2,v2,b2,f2⟩:=p2.part X pins σ H s hP hw hK I ys Qv
  refine mJ (I.ok.hd hc) D q1 q2 h1 h2 h3 (f1 i h4) (f2 i h5) he fun h' tk hk=>⟨rfl,?_⟩
  refine Ef (t':=tk) I (fun b u hb q=>?_) hf
  simp only [cn,dU,or_false,not_or] at hb
  exact hk b u hb.1 hb.2.2.1 hb.2.2.2.1 hb.2.2.2.2 q
 self:=fun _ _ _ _ _ st h=>by
  obtain ⟨h1,_⟩:=st
  exact wpAny_pyIter_zip h1 h
inductive ZK (K:PySem.W.Frag) (H:Hp):V→(Hp→List V→Prop)→Prop where
 | lst {a:Addr} {xs:List V}:eB K H a xs→ZK K H (.ref a) (fun H xs=>eB K H a xs)
 | tup {a:Addr} {xs:List V}:dq K H a xs→ZK K H (.ref a) (fun H xs=>dq K H a xs)
 | str (z:Str):ZK K H (.str z) (fun _ xs=>xs=vv z)
theorem F' {X:Cx} {pins:List (Addr×Obj)} {σ:St} {H:Hp} {s:Shared} {x:V} {u:Value} {sq:Hp→List V→Prop} (I:Inv X pins σ H s) (z:ZK X.K H x sq) (r:RelV x u) :
  ∃ (o:Obj) (c:Heap→Prop) (fp:List Addr) (it:Addr→Nat→Heap→Prop),gQ u o c∧c s.heap∧(∀ h o,c h→c (h.push o))∧o.isFreed=false∧(∀ b∈fp,b < s.heap.objs.size) ∧
   ∀ i,s.heap.objs.size≤i→yy X.prog X.w X.K i (i :: fp) sq (it i)∧∀ h,h.get? i=some o→it i 0 h:=by
 cases z with
 | lst hq =>
   rename_i a xs
   cases r
   obtain ⟨aJ,rv,p,hz⟩:=I.list hq
   have hl:a < s.heap.objs.size:=by obtain ⟨o,n,e,_⟩:=p; exact er e
   refine ⟨_,_,[a],fun i k h=>h.IsListIter i a k,sW a aJ.toArray,p.isList,fun h o q=>Heap.IsList.push q _,rfl,fun b hb=>by rw [r6.mp hb]; exact hl,fun i hi=>⟨src_list i a (ip (n_ hl hi)),fun h e=>⟨_,e,rfl,rfl⟩⟩⟩
 | tup hq =>
   rename_i a xs
   cases r
   obtain ⟨aJ,rv,p,hz⟩:=I.tuple hq
   have hl:a < s.heap.objs.size:=by obtain ⟨o,e,_⟩:=p; exact er e
   refine ⟨_,_,[a],fun i k h=>h.IsTupleIter i a k,qK a aJ.toArray,p,fun h o q=>(let ⟨o',e,r⟩:=q; ⟨o',d_ _ e,r⟩),rfl,fun b hb=>by rw [r6.mp hb]; exact hl,fun i hi=>⟨src_tuple i a (ip (n_ hl hi)),fun h e=>⟨_,e,rfl,rfl⟩⟩⟩
 | str z =>
   obtain ⟨t,rfl⟩:=r
   refine ⟨_,_,[],fun i k h=>h.IsStrIter i (strIterType z) z t k,vo z t,trivial,fun _ _ _=>trivial,rfl,fun b hb=>?_,fun i hi=>⟨Ee i z t,fun h e=>⟨_,e,rfl,rfl⟩⟩⟩
   cases hb
theorem nn {a b:Nat} (h:a < b):a≠b:=ip h
theorem Ba {n:Nat} {mI lJ:List Addr} (h1:∀ b∈mI,b < n) (h2:∀ b∈lJ,b < n):Apart (n+4) (n+2) (n+3) n (n+1) (n :: mI) ((n+1) :: lJ):=by
 have k1:∀ b:Nat,n < b→b∉(n :: mI):=fun b hb m=>by
  rcases cn.mp m with q | q
  · exact CD hb q
  · exact CC _ (Nat.lt_trans hb (h1 b q))
 have k2:∀ b:Nat,n+1 < b→b∉((n+1) :: lJ):=fun b hb m=>by
  rcases cn.mp m with q | q
  · exact CD hb q
  · exact CC _ (Nat.lt_trans (Nat.lt_trans (GO n) hb) (h2 b q))
 have k3:n∉((n+1) :: lJ):=fun m=>by
  rcases cn.mp m with q | q
  · exact ip (GO n) q
  · exact CC _ (h2 n q)
 exact ⟨nn (by omega),nn (by omega),nn (by omega),nn (by omega),nn (by omega),(nn (by omega)).symm,(nn (by omega)).symm,(nn (by omega)).symm,(nn (by omega)).symm,nn (by omega),k1 _ (by omega),k2 _ (by omega),k1 _ (by omega),k2 _ (by omega),k1 _ (by omega),k3⟩
theorem Eg {n c:Nat} (h:c∈[n+4,n+2,n+3,n,n+1]):n≤c:=by
 simp only [cn,dU,or_false] at h
 omega
def SI (K:PySem.W.Frag) (ta:TA):TI:=fun σ H R=>ta σ H fun vs H1=>∃ x y vy vz,vs=[x,y]∧ZK K H1 x vy∧ZK K H1 y vz∧R (SG vy vz) H1
section
variable {X:Cx} {Z:Zc}
theorem boot_zip:bootBuiltins "zip" = some (.type "zip"):=by decide +kernel
theorem Iz {elts:List Expr} {x1} {tp:Pos} {a b:Expr} {ta:TA} {p pos:Pos} (hg:Gl X "zip") (hm:X.mg "zip" = none) (ha:PA X [a,b] ta) (hs:starEach [a,b] X.env=[(false,eval a X.env),(false,eval b X.env)]) (CL:starEach [b] X.env=[(false,eval b X.env)]) :
  PI X (.Tuple elts x1 tp) (.Call (.Name "zip" p) [a,b] [] pos) (SI X.K ta):=by
 intro pins s σ H R I h
 refine Call_ (jQ I hg hm boot_zip (PK (cf (ha pos pins s σ H _ I h) fun us s1 ⟨vs,H1,I1,r1,q1⟩=>?_) (by rw [hs,CL]) (by rw [CL]; rfl)))
 obtain ⟨x,y,vy,vz,e,k1,k2,q⟩:=q1
 subst e
 obtain ⟨u,w',rfl,ru,rw'⟩:=vals2 r1
 obtain ⟨o1,c1,mI,t1,i1,SD,W4,SE,MM,z1⟩:=F' I1 k1 ru
 obtain ⟨o2,c2,lJ,t2,i2,zR,Iy,SF,IA,z2⟩:=F' I1 k2 rw'
 refine yx i1 i2 Iy SD zR SE SF fun h' hz D' Ea g1 g2 zP hk=>?_
 have I2:Inv X pins σ H1 { s1 with heap:=h' }:=I1.kept (t':=s1.toks) hk
 refine wpAny_pyIter_zip hz ?_
 obtain ⟨S1,a1⟩:=z1 s1.heap.objs.size (dH _)
 obtain ⟨S2,a2⟩:=z2 (s1.heap.objs.size+1) (KD _)
 have D:Apart (s1.heap.objs.size+4) (s1.heap.objs.size+2) (s1.heap.objs.size+3) s1.heap.objs.size (s1.heap.objs.size+1) (s1.heap.objs.size :: mI) ((s1.heap.objs.size+1) :: lJ):=by
  exact Ba MM IA
 refine ⟨s1.heap.objs.size+4,_,_,_,H1,rfl,I2,A_ D S1 S2,⟨hz,D',⟨_,_,Ea⟩,a1 _ g1,a2 _ g2⟩,fun c hc=>?_,q⟩
 have Vq:s1.heap.objs.size≤c:=Eg hc
 exact I1.og Vq (I1.bA.fresh Vq)
def IB:T→Option (List T)
 | .lst ts=>some ts
 | .tup ts=>some ts
 | .str z=>some (z.cps.toList.map fun c=>.str ⟨#[c]⟩)
 | _=>none
def gB (xs ys:List T):List T:=List.zipWith (fun a b=>.tup [a,b]) xs ys
def SJ (fa fb:FE):FI:=fun ρ Q=>fa ρ fun x=>fb ρ fun y=>match IB x,IB y with
 | some xs,some ys=>Q (gB xs ys)
 | _,_=>False
theorem Ga {K:PySem.W.Frag} {H:Hp} {A:List Addr} {x:T} {v:V} {xs:List T} (h:At K H A x v) (e:IB x=some xs):∃ sq,ZK K H v sq∧∀ H A,At K H A x v→∃ vs,sq H vs∧au K H A xs vs:=by
 cases x with
 | lst ts =>
   cases e
   simp only [At] at h
   obtain ⟨a,vs,rfl,l,q⟩:=h
   refine ⟨_,.lst l.sq,fun H A h=>?_⟩
   simp only [At] at h
   obtain ⟨a',iT,e,l',q'⟩:=h
   cases e
   exact ⟨iT,l'.sq,q'⟩
 | tup ts =>
   cases e
   simp only [At] at h
   obtain ⟨a,vs,rfl,l,q⟩:=h
   refine ⟨_,.tup l,fun H A h=>?_⟩
   simp only [At] at h
   obtain ⟨a',iT,e,l',q'⟩:=h
   cases e
   exact ⟨iT,l',q'⟩
 | str z =>
   cases e
   simp only [At] at h
   subst h
   refine ⟨_,.str z,fun H A h=>⟨vv z,rfl,?_⟩⟩
   unfold vv
   generalize z.cps.toList=l
   induction l with
   | nil=>exact au.nil
   | cons c l ih=>exact au.cons bE ih
 | _=>cases e
theorem IC {K:PySem.W.Frag} {x y:T} {v w:V} {xs ys:List T} {vy vz:Hp→List V→Prop} (h1:∀ H A,At K H A x v→∃ vs,vy H vs∧au K H A xs vs) (h2:∀ H A,At K H A y w→∃ vs,vz H vs∧au K H A ys vs) :
  Wk K (SG vy vz) [(x,v),(y,w)] (gB xs ys):=fun H A hA h i=>by
 obtain ⟨vs,q1,l1⟩:=h1 H A (h _ eW)
 obtain ⟨ws,q2,l2⟩:=h2 H A (h _ (g9 _ eW))
 have e1:=l1.length
 have e2:=l2.length
 have el:(gB xs ys).length=min xs.length ys.length:=by unfold gB; rw [List.length_zipWith]
 rw [el]
 refine ⟨fun hi=>⟨vs,ws,q1,q2,by omega,by omega⟩,fun hi=>⟨vs,ws,q1,q2,by omega⟩,fun t ht x H' y=>?_⟩
 obtain ⟨p,a,b,hp,rfl,ha,hb,rfl⟩:=y
 unfold gB at ht
 rw [List.getElem?_zipWith] at ht
 cases ex:xs[i]? with
 | none=>rw [ex] at ht; cases ht
 | some tx =>
   cases ey:ys[i]? with
   | none=>rw [ex,ey] at ht; cases ht
   | some ty =>
     rw [ex,ey] at ht
     cases ht
     obtain ⟨v1,g1,g2⟩:=l1.get ex
     obtain ⟨v2,g3,g4⟩:=l2.get ey
     have z1:=ha vs q1
     have z2:=hb ws q2
     rw [g1] at z1
     rw [g3] at z2
     cases z1
     cases z2
     exact ⟨aM hp,bt (dq.of aX) (au.cons (g2.same (aM hp)) (au.cons (g4.same (aM hp)) au.nil))⟩
theorem vA {elts:List Expr} {x1} {tp p pos:Pos} {a b:Expr} {fa fb:FE} (hg:Gl X "zip") (hm:X.mg "zip" = none) (ha:VE X Z a fa) (hb:VE X Z b fb)
  (hs:starEach [a,b] X.env=[(false,eval a X.env),(false,eval b X.env)]:=by rfl) (CL:starEach [b] X.env=[(false,eval b X.env)]:=by rfl) :
  VI X Z (.Tuple elts x1 tp) (.Call (.Name "zip" p) [a,b] [] pos) (SJ fa fb):=.mk fun tm =>
 PI.weak (Iz hg hm (bY (ha tm) (bY (hb tm) dW CL) (by rw [hs,CL])) hs CL) fun σ H R ⟨ρ,O,q,I,hf,k⟩=>⟨ρ,O,_,I,hf,fun x hx v H1 s1 a1=>⟨ρ,O,_,I.same s1,hx,fun y hy w H2 s2 a2=>by
  split at hy
  · rename_i xs ys e1 e2
    obtain ⟨vy,k1,w1⟩:=Ga (a1.same s2) e1
    obtain ⟨vz,k2,w2⟩:=Ga a2 e2
    exact ⟨v,w,vy,vz,rfl,k1,k2,k _ hy _ H2 _ (s1.trans s2) (fun p hp=>by
     rcases cn.mp hp with e | hp
     · rw [e]; exact a1.same s2
     · rw [r6.mp hp]; exact a2) (IC w1 w2)⟩
  · exact hy.elim⟩⟩
end
end VT
namespace HD
open PySem PySem.W PySem.Calls PyProof.Rows
noncomputable def lK (tb:String→Option Builtin) (p:Program) (w:World) (n₀:Nat) (ann:Option Value):Nat→SharedT→Thread→Option SharedT
 | 0,_,_=>none
 | n+1,s,t=>match through t with
   | true=>some s
   | false=>match stepOk n₀ ann t with
     | false=>none
     | true=>match stepT (denote tb) p w s t with
       | some (s',t')=>lK tb p w n₀ ann n s' t'
       | none=>none
theorem pJ {tb:String→Option Builtin} {p:Program} {w:World} {n₀:Nat} {ann:Option Value}:∀ {n:Nat} {s s':SharedT} {t:Thread},lK tb p w n₀ ann n s t=some s'→topRun tb p w n₀ ann n s.abs t=some s'.abs
 | 0,_,_,_,h=>by cases h
 | n+1,s,s',t,h=>by
   unfold lK at h
   unfold topRun
   cases ht:through t with
   | true=>rw [ht] at h; cases h; rfl
   | false =>
     rw [ht] at h
     cases hk:stepOk n₀ ann t with
     | false=>rw [hk] at h; cases h
     | true =>
       rw [hk] at h
       cases hs:stepT (denote tb) p w s t with
       | none=>rw [hs] at h; cases h
       | some r=>obtain ⟨s₂,t₂⟩:=r; rw [hs] at h; rw [stepT_spec hs]; exact pJ h
noncomputable def W5 (l:List Obj):BT:=(l.foldl (fun (p:BT×Nat) o=>(p.1.ins p.2 o,p.2+1)) (.nil,0)).1
noncomputable def kL (P:Params):BT:=W5 (boot_heap P).objs.toList
noncomputable def Vr (T:BT) (os:OsState):SharedT:=⟨T,11,{},Array.mk [],boot_drawn,boot_toks,os⟩
theorem boot_abs (P:Params):absHeap (kL P) 11 {}=boot_heap P:=by kernel_rfl
theorem yz (P:Params):((boot_heap P).isNs mainGlobals,(boot_heap P).objs.size,(boot_heap P).nsMap mainGlobals "__annotations__")=(true,11,some (.ref 6)):=by kernel_rfl
noncomputable def SK (p:Program) (T:BT) (w:World) (M:Nat) (os:OsState):Option SharedT:=lK treeTable p w 11 (some (.ref 6)) M (Vr T os) (topStub p)
noncomputable def Kf (as:List Addr) (g:Addr→Option Obj):Frag:=as.filterMap fun a=>(g a).map fun o=>(a,o)
abbrev KS (q:Program) (lv:List (Str×WData)) (R:WRecords) (s:Shared):Bool:=xlAt q lv s && recOk R s
noncomputable def ID (p q:Program) (loose:List Str) (lv:List (Str×WData)) (R:WRecords) (H0:Heap) (s:Shared) :=
 ((staticsOk (importedModules p.main.body) H0 s.heap && namesBound p s.heap && gensDone s && laidKept H0 s.heap),openSeen q loose (importedModules p.main.body) (KS q lv R) true s)
noncomputable def whole {β:Type} (p q:Program) (loose:List Str) (lv:List (Str×WData)) (R:WRecords) (as:List Addr) (F:Frag→β) (T:BT) (H0:Heap) (w:World) (M:Nat) (os:OsState) :=
 (SK p T w M os).map fun s=>(ID p q loose lv R H0 s.abs,F (Kf as s.abs.heap.get?))
noncomputable def qL (p:Program) (N:Nat) (w:World) (a:Addr):Option Obj:=(openEnds treeTable p w N).bind (·.heap.get? a)
theorem head {p q:Program} {loose:List Str} {lv:List (Str×WData)} {R:WRecords} {as:List Addr} {N M:Nat} {β:Type} {F:Frag→β} {v:World→β}
  (e:opening p=plainProg p.main.scope.names) (hN:Nat.ble 600 N=true) (f:∀ s,fenceModules? p s=some s) (le:Nat.ble M N=true)
  (run:∀ (w:World) (os:OsState),whole p q loose lv R as F (kL w.params) (boot_heap w.params) w M os=some ((true,openGood q loose),v w)) :
  LeftO p q loose (KS q lv R) (fun s=>as.map s.heap.get?) (fun w=>as.map (qL p N w)) N∧∀ w,F (Kf as (qL p N w))=v w:=by
 have key:∀ w,∃ s,openEnds treeTable p w N=some s∧openSeen q loose (importedModules p.main.body) (KS q lv R) true s=openGood q loose∧F (Kf as s.heap.get?)=v w:=fun w=>by
  obtain ⟨⟨h,gs,d,k,os⟩,e1,e2⟩:=QW.mp (boot_open e hN f w)
  obtain ⟨rfl,rfl,rfl,rfl⟩:h=boot_heap w.params∧gs=Array.mk []∧d=boot_drawn∧k=boot_toks:=by simpa using e2
  obtain ⟨s,r1,r2⟩:=QW.mp (run w os)
  have r3:=congrArg (fun x=>x.1.1) r2
  have r4:=congrArg (fun x=>x.1.2) r2
  have r5:=congrArg (fun x=>x.2) r2
  have t1:=pJ r1
  have ea:(Vr (kL w.params) os).abs=⟨boot_heap w.params,Array.mk [],boot_drawn,boot_toks,os⟩:=by
   show (⟨absHeap (kL w.params) 11 {},_,_,_,_⟩:Shared)=_
   rw [boot_abs]; rfl
  rw [ea] at t1
  have t2:=topRun_mono (N - M) _ _ _ _ t1
  rw [show M+(N - M)=N by have:=Nat.le_of_ble_eq_true le; omega] at t2
  have z:=yz w.params
  have z1:=congrArg (fun x=>x.1) z
  have z2:=congrArg (fun x=>x.2.1) z
  have z3:=congrArg (fun x=>x.2.2) z
  refine ⟨s.abs,?_,r4,r5⟩
  unfold openEnds
  rw [e1]
  show topFrom treeTable p w N _=_
  unfold topFrom
  dsimp only at z1 z2 z3 ⊢
  rw [z1,z2,z3,t2]
  show (match staticsOk (importedModules p.main.body) (boot_heap w.params) s.abs.heap && namesBound p s.abs.heap && gensDone s.abs && laidKept (boot_heap w.params) s.abs.heap with | true=>_ | false=>_)=_
  have W6:(staticsOk (importedModules p.main.body) (boot_heap w.params) s.abs.heap && namesBound p s.abs.heap && gensDone s.abs && laidKept (boot_heap w.params) s.abs.heap)=true:=r3
  rw [W6]
 refine ⟨fun w=>?_,fun w=>?_⟩
 · obtain ⟨s,a,b,c⟩:=key w
   rw [a]
   have:qL p N w=s.heap.get?:=by funext x; unfold qL; rw [a]; rfl
   show some (openSeen q loose (importedModules p.main.body) (KS q lv R) true s,as.map s.heap.get?)=some (openGood q loose,as.map (qL p N w))
   rw [b,this]
 · obtain ⟨s,a,b,c⟩:=key w
   have:qL p N w=s.heap.get?:=by funext x; unfold qL; rw [a]; rfl
   rw [this]
   exact c
theorem kf_in {as:List Addr} {g:Addr→Option Obj} {h:Heap} (e:as.map h.get?=as.map g):(Kf as g).In h:=by
 have key:∀ {as:List Addr},as.map h.get?=as.map g→∀ a o,(Kf as g).lookup a=some o→h.get? a=some o:=by
  intro as
  induction as with
  | nil=>intro _ a o z; cases z
  | cons x as ih =>
    intro e a o z
    rw [fu,fu] at e
    injection e with e1 e2
    unfold Kf at z
    rw [lx] at z
    cases hg:g x with
    | none=>rw [hg] at z; exact ih e2 a o z
    | some o' =>
      rw [hg] at z
      simp only [Option.map_some,FC] at z
      split at z
      · rename_i q
        have:a=x:=by simpa using q
        subst this
        cases z
        rw [e1,hg]
      · exact ih e2 a o z
 exact fun a o z=>key e a o z
theorem Bb {q:Program} {loose:List Str} {XP:(Str→Option Value)→Heap→Prop} {as:List Addr} {g:World→Addr→Option Obj} {r:RowW} {d:DefRec} {kwd:List (Str×Expr)} {run:Value→List Value→Sem Value}
  (h:WalkO q loose XP (fun w h=>(Kf as (g w)).In h) r d kwd run):WalkX q loose XP (fun s=>as.map s.heap.get?) (fun w=>as.map (g w)) r d kwd run :=
 fun w s₀ s₁ mg mb G y a o pm cd doc dV kV h1 h2 h3 h4 h5 h6 args vals pH L ic L9 U7 KL U8=>h w s₀ s₁ mg mb G (fun b o' z=>Laid.keeps L _ _ (kf_in y b o' z)) a o pm cd doc dV kV h1 h2 h3 h4 h5 h6 args vals pH ic L9 U7 KL U8
noncomputable def MN:Stmt→DefRec
 | .FunctionDef n ps b _ _ _ sc _ _ p=>⟨n,ps,b,sc,p⟩
 | _=>⟨Str.empty,default,[],default,default⟩
end HD
lay_quick HD.whole
namespace VT
open PySem PySem.Spec PyProof.Rows L2
section
variable {X:Cx} {Z:Zc} {o e:Expr} {fo fe:FE} {apos a_:Pos}
def Eh (fo fe:FE):FP:=fun ρ Q=>fo ρ fun x=>match x with
 | .str z=>fe ρ fun y=>match y with
   | .str y=>Q (.vw (.bl (Txt.startswith z y)))
   | _=>False
 | _=>False
theorem ka (ho:VR X Z o fo) (he:VR X Z e fe) (dO:attributeBase o "startswith" X.env (eval o X.env)=eval o X.env:=by rfl)
  (jX:((backTo a_ (starEach [e] X.env)).all (fun x=>!x.1) && (backToKw a_ (keywordEach [] X.env)).all (fun x=>x.1.isSome)
    && decide (([e]:List Expr).length+([]:List Keyword).length+(if ([]:List Keyword).isEmpty then 0 else 1) < 30))=true:=by rfl)
  (dP:(apos.endLine == a_.line)=true:=by rfl) (hs:starEach [e] X.env=(false,eval e X.env) :: starEach [] X.env:=by rfl) (dw:(backTo a_ (starEach [] X.env)).any (·.1)=false:=by rfl) :
  VP X Z (.Call (.Attribute o "startswith" apos) [e] [] a_) (Eh fo fe):=.mk fun tm =>
 PE.weak (pC QX PySem.F.slot_str_startswith PySem.F.type_str_startswith om (ho tm) (bY (he tm) dW hs) dO jX dP hs dw) fun σ H Q ⟨ρ,O,q,I,hf,k⟩ =>
  ⟨ρ,O,_,I,hf,fun x hx v H1 s1 a1=>by
    split at hx
    · rename_i z
      have ev:=a1.str
      subst ev
      refine ⟨rfl,ρ,O,_,I.same s1,hx,fun y hy w H2 s2 a2=>?_⟩
      split at hy
      · have ew:=a2.str
        subst ew
        exact ⟨z,_,rfl,rfl,k _ hy _ H2 (s1.trans s2) ⟨(I.same s1).same s2,dr⟩⟩
      · exact hy.elim
    · exact hx.elim⟩
end
end VT
namespace VT
open PySem PySem.Spec PyProof.Rows
def KU {K:Type} [DecidableEq K] (l:List K) (v:K):List K:=if v∈l then l else l ++ [v]
def met {K:Type} [DecidableEq K] (val:Nat→K):Nat→List K
 | 0=>[]
 | i+1=>KU (met val i) (val i)
section
variable {K:Type} [DecidableEq K]
theorem xx (val:Nat→K):∀ i,(met val i).length≤i
 | 0=>dH _
 | i+1=>by
   have:=xx val i
   simp only [met,KU]
   split
   · omega
   · rw [kS,PU]; omega
theorem Ei {l:List K} {v k:K}:k∈KU l v↔k∈l∨k=v:=by
 unfold KU
 split
 · rename_i h
   exact ⟨.inl,fun q=>q.elim id fun e=>e▸h⟩
 · rw [gD,r6]
end
abbrev eV (led:Bool):Obj:={ cls:=.type "set",dict:=none,data:=.set #[] 0 (.fresh 0 0 led) }
theorem sub_list_set:isSubtype (.type "list") (.type "set")=pure false:=by rw [isSubtype_type]; kernel_rfl
theorem sub_list_frozenset:isSubtype (.type "list") (.type "frozenset")=pure false:=by rw [isSubtype_type]; kernel_rfl
theorem sub_tuple_set:isSubtype (.type "tuple") (.type "set")=pure false:=by rw [isSubtype_type]; kernel_rfl
theorem sub_tuple_frozenset:isSubtype (.type "tuple") (.type "frozenset")=pure false:=by rw [isSubtype_type]; kernel_rfl
section
variable {prog:Program} {w:World} {A:Around} {R:Result→Shared→Prop} {I:Addr} {fp wr:List Addr} {G:Array GenState→Array GenState→Prop} {n:Nat} {P:Nat→Value→Prop} {St:Nat→Shared→Prop}
variable {K:Type} [DecidableEq K] {knd:PySem.KeyKind prog w K}
theorem pK (W:WalksS prog w A.in1 I fp wr G n P St) (S:Addr) (KW:S∉fp)
  (val:Nat→K) (SM:∀ i v,P i v→knd.is (val i) v=true∧v.scannable=true) (hb:n+1 < scanBound) :
  ∀ (k i:Nat) (s:Shared),n - i=k→i≤n→St i s →
   s.heap.SetOf knd S (fun k'=>decide (k'∈met val i)) (met val i).length →
   (∀ s',Moved (S :: wr) G s s'→s'.heap.SetOf knd S (fun k'=>decide (k'∈met val n)) (met val n).length→R (.ok (.ret .none)) s') →
   codeAny (model prog w) A (.builtin "set.update.loop" ⟨[.ref S,.ref I],[]⟩) R s:=by
 have Vs:S∉wr:=fun h=>KW (W.sub _ h)
 have A9:∀ b∈wr,b∈S :: wr:=fun b hb=>g9 _ hb
 intro k
 induction k with
 | zero =>
   intro i s hk hi C_ hS hR
   have SN:i=n:=by omega
   subst SN
   refine codeAny_builtin PyProof.Rows.F.entry_set_update_loop ?_
   rw [Around.under_plainId QI _]
   show wpAny _ A.in1 (pyNext (.ref I) >>= _) _ _ s
   refine wpAny_bind (W.done s _ _ C_ fun s' hm=>?_)
   show wpAny _ A.in1 (ret Value.none) _ _ s'
   exact wpAny_pure (hR s' (hm.mono A9) (by
    obtain ⟨o,es,ep,t,ho,rest⟩:=hS
    exact ⟨o,es,ep,t,hm.heap S _ Vs ho,rest⟩))
 | succ k ih =>
   intro i s hk hi C_ hS hR
   have fz:i < n:=by omega
   refine codeAny_builtin PyProof.Rows.F.entry_set_update_loop ?_
   rw [Around.under_plainId QI _]
   show wpAny _ A.in1 (pyNext (.ref I) >>= _) _ _ s
   refine wpAny_bind (W.item i s _ _ fz C_ fun v s' hP SO hm=>?_)
   obtain ⟨Il,Im⟩:=SM i v hP
   have Bc:s'.heap.SetOf knd S (fun k'=>decide (k'∈met val i)) (met val i).length:=by
    obtain ⟨o,es,ep,tb,ho,rest⟩:=hS
    exact ⟨o,es,ep,tb,hm.heap S _ Vs ho,rest⟩
   show wpAny _ A.in1 (holding [v] (setAdd S v) >>= _) _ _ s'
   refine wpAny_bind (wpAny_holding ?_)
   unfold setAdd
   refine wpAny_holding ?_
   refine wpAny_bind (knd.pyHash (k:=val i) Il ?_)
   have MO:(met val i).length+1 < scanBound:=by have:=xx val i; omega
   refine wpAny_setAddHashed_of (knd:=knd) (s:={ s' with toks:=s'.toks+1 }) Il Im Bc MO fun h' Vt W7=>?_
   have W8:h'.SetOf knd S (fun k'=>decide (k'∈met val (i+1))) (met val (i+1)).length :=
    SetOf_congr W7 (fun k'=>by
     simp only [met,Ei,Bool.decide_or]) (by
     simp only [met,KU,decide_eq_true_eq]
     split <;> simp)
   refine wpAny_pure ⟨plainId_quiet QI _,ih (i+1) _ (by omega) fz (W.frame _ s' _ _ SO (KD _) fun b hb o e=>?_) W8 fun LP SQ SR=>?_⟩
   · rw [Vt.2 b (fun h:b=S=>KW (by rw [← h]; exact hb))]; exact e
   · refine hR LP (Moved.trans W.gtrans ((hm.mono A9).then_heap (KD _) fun b o hb e=>?_) SQ) SR
     rw [Vt.2 b (fun h:b=S=>hb (by rw [h]; exact eW))]; exact e
end
section
variable {prog:Program} {w:World} {A:Around} {E:Value→Shared→Prop} {s:Shared} {K:Type} [DecidableEq K] {knd:PySem.KeyKind prog w K}
theorem mK {l:Addr} {items:Array Value} {val:Nat→K} {Q:Value→Shared→Prop}
  (hh:A.handled=none) (hl:s.heap.IsList l items) (hi:∀ (i:Nat) (v:Value),items[i]?=some v→knd.is (val i) v=true∧v.scannable=true) (hb:items.size+1 < scanBound)
  (h:∀ (h':Heap) (tk:Nat),h'.SetOf knd s.heap.objs.size (fun k'=>decide (k'∈met val items.size)) (met val items.size).length →
    (∀ b o,b < s.heap.objs.size→s.heap.get? b=some o→h'.get? b=some o)→s.heap.objs.size < h'.objs.size→Q (.ref s.heap.objs.size) { s with heap:=h',toks:=tk }) :
  wpAny (model prog w) A (call (.type "set") [.ref l]) Q E s:=by
 obtain ⟨c,tl,SS⟩:=uH.mro
 have MQ:=uH.made
 have A9:=uH.sub
 refine wpAny_call (codeAny_of_tree ?_)
 show wpAny _ _ (callAny (.type "set") _) _ _ _
 refine wpAny_pure ⟨Code.quiet_builtin _ (by decide +kernel),codeAny_builtin F.entry_type_call ?_⟩
 rw [Around.under_plain (weight_type_call_type "set" [.ref l] []) rfl]
 have h1:=uH.notType
 have h2:=uH.canCreate
 have W9:=PySem.F.typeCall_set_1 (.ref l)
 repeat (any_goals (first | assumption | wp_step))
 refine codeAny_mono (code_set_new_1 (.ref l) (E:=E) (Q₁:=fun obj s₁=>∃ led:Bool,obj = .ref s.heap.objs.size∧s₁={ s with heap:=s.heap.push (eV led) }) fun led=>⟨led,rfl,rfl⟩) fun r s₁ hr=>?_
 cases r with
 | error e=>exact hr
 | ok fl =>
   cases fl with
   | ret obj =>
     obtain ⟨led,rfl,rfl⟩:=hr
     have hS:(s.heap.push (eV led)).get? s.heap.objs.size=some (eV led):=ly _ rfl
     have hT:Shared.TypeIs { s with heap:=s.heap.push (eV led) } (.ref s.heap.objs.size) "set":=⟨_,hS,rfl⟩
     have W_:=uH.init.lookup
     have RT:=uH.init.bind (.ref s.heap.objs.size)
     repeat (any_goals (first | assumption | wp_step))
     refine codeAny_mono (codeAny_call_builtin (R:=wants (fun r s₂=>r = .none∧∃ h' tk,s₂={ s with heap:=h',toks:=tk } ∧
       h'.SetOf knd s.heap.objs.size (fun k'=>decide (k'∈met val items.size)) (met val items.size).length ∧
       (∀ b o,b < s.heap.objs.size→s.heap.get? b=some o→h'.get? b=some o)) E) uH.init.plain PySem.F.entry_set_init (check_set_init_1 hT ?_)) fun r₂ s₂ IE=>?_
     · obtain ⟨ol,DZ,DA,nl,D_⟩:=hl
       obtain ⟨SU,Bd,MR,vB⟩:=ol
       simp only at DA D_
       subst DA; subst D_
       have IF:(s.heap.push (eV led)).get? l=some { cls:=.type "list",dict:=Bd,data:=.seq items nl,slots:=vB }:=d_ _ DZ
       have SV:=sub_list_set
       have SW:=sub_list_frozenset
       have iE:(Value.type "list" == Value.type "dict")=false:=by decide
       have Ej:(s.heap.push (eV led)).IsList l items:=⟨_,IF,rfl,nl,rfl⟩
       unfold Builtin.«set.__init__» noKeywords Builtin.Frozenset.updateFrom
       generalize SX:pyIter=PI
       wp_walk
       subst SX
       refine wpAny_pyIter_list Ej ?_
       refine wpAny_bind (wpAny_runValue ?_)
       have MS:l < s.heap.objs.size:=er DZ
       have SY:A.in1.in1.in1.handled=none:=by simp [hh]
       have IG:l≠(s.heap.push (eV led)).objs.size:=by
        rw [uP]; exact ip (Le MS)
       have KW:s.heap.objs.size∉[(s.heap.push (eV led)).objs.size,l]:=by
        rw [uP]; simp only [cn,r6,dU,or_false,not_or]
        exact ⟨ip (GO _),CD MS⟩
       refine pK ((Walks.list SY _ l IG items).toS) s.heap.objs.size
        KW val hi hb (items.size - 0) 0 _ (by omega) (ia _)
        ⟨⟨_,ly _ rfl,rfl,rfl⟩,(Ej.push _)⟩ ?hS0 ?hR
       case hS0 =>
        have IH:((s.heap.push (eV led)).push { cls:=.type "list_iterator",data:=.fields #[.ref l,.int 0 0] }).get? s.heap.objs.size
          = some (eV led):=d_ _ hS
        exact SetOf_congr ((setObjOf_fresh (knd:=knd) led).setOf IH (by unfold scanBound; omega)) (fun _=>by simp [met]) rfl
       case hR =>
        intro s' hm Bc
        obtain ⟨h',g',d',S0,LN⟩:=s'
        have eg:g'=s.gens:=hm.gens
        have ed:d'=s.drawn:=hm.drawn
        have eo:LN=s.os:=hm.os
        subst eg; subst ed; subst eo
        show wpAny _ _ _ _ _ _
        refine wpAny_pure ?_
        show wpAny _ _ (ret Value.none) _ _ _
        refine wpAny_pure ⟨rfl,h',S0,rfl,Bc,fun b o hb e=>?_⟩
        have MM:b≠s.heap.objs.size:=ip hb
        have IA:b≠(s.heap.push (eV led)).objs.size:=by
         rw [uP]; exact ip (Le hb)
        exact hm.heap b o (by simp only [cn,r6,dU,or_false,not_or]; exact ⟨MM,IA⟩) (d_ _ (d_ _ e))
     · cases r₂ with
       | error e=>exact IE
       | ok S3 =>
         cases S3 with
         | ret r =>
           obtain ⟨rfl,h',tk,rfl,Bc,MU⟩:=IE
           repeat (any_goals (first | assumption | wp_step))
           refine h _ _ Bc MU ?_
           obtain ⟨o,_,_,_,ho,_⟩:=Bc
           exact er ho
         | _=>exact IE.elim
   | _=>exact hr.elim
theorem k5 {l:Addr} {items:Array Value} {val:Nat→K} {Q:Value→Shared→Prop}
  (hh:A.handled=none) (hl:s.heap.IsTuple l items) (hi:∀ (i:Nat) (v:Value),items[i]?=some v→knd.is (val i) v=true∧v.scannable=true) (hb:items.size+1 < scanBound)
  (h:∀ (h':Heap) (tk:Nat),h'.SetOf knd s.heap.objs.size (fun k'=>decide (k'∈met val items.size)) (met val items.size).length →
    (∀ b o,b < s.heap.objs.size→s.heap.get? b=some o→h'.get? b=some o)→s.heap.objs.size < h'.objs.size→Q (.ref s.heap.objs.size) { s with heap:=h',toks:=tk }) :
  wpAny (model prog w) A (call (.type "set") [.ref l]) Q E s:=by
 obtain ⟨c,tl,SS⟩:=uH.mro
 have MQ:=uH.made
 have A9:=uH.sub
 refine wpAny_call (codeAny_of_tree ?_)
 show wpAny _ _ (callAny (.type "set") _) _ _ _
 refine wpAny_pure ⟨Code.quiet_builtin _ (by decide +kernel),codeAny_builtin F.entry_type_call ?_⟩
 rw [Around.under_plain (weight_type_call_type "set" [.ref l] []) rfl]
 have h1:=uH.notType
 have h2:=uH.canCreate
 have W9:=PySem.F.typeCall_set_1 (.ref l)
 repeat (any_goals (first | assumption | wp_step))
 refine codeAny_mono (code_set_new_1 (.ref l) (E:=E) (Q₁:=fun obj s₁=>∃ led:Bool,obj = .ref s.heap.objs.size∧s₁={ s with heap:=s.heap.push (eV led) }) fun led=>⟨led,rfl,rfl⟩) fun r s₁ hr=>?_
 cases r with
 | error e=>exact hr
 | ok fl =>
   cases fl with
   | ret obj =>
     obtain ⟨led,rfl,rfl⟩:=hr
     have hS:(s.heap.push (eV led)).get? s.heap.objs.size=some (eV led):=ly _ rfl
     have hT:Shared.TypeIs { s with heap:=s.heap.push (eV led) } (.ref s.heap.objs.size) "set":=⟨_,hS,rfl⟩
     have W_:=uH.init.lookup
     have RT:=uH.init.bind (.ref s.heap.objs.size)
     repeat (any_goals (first | assumption | wp_step))
     refine codeAny_mono (codeAny_call_builtin (R:=wants (fun r s₂=>r = .none∧∃ h' tk,s₂={ s with heap:=h',toks:=tk } ∧
       h'.SetOf knd s.heap.objs.size (fun k'=>decide (k'∈met val items.size)) (met val items.size).length ∧
       (∀ b o,b < s.heap.objs.size→s.heap.get? b=some o→h'.get? b=some o)) E) uH.init.plain PySem.F.entry_set_init (check_set_init_1 hT ?_)) fun r₂ s₂ IE=>?_
     · obtain ⟨ol,DZ,DA,nl,D_⟩:=hl
       obtain ⟨SU,Bd,MR,vB⟩:=ol
       simp only at DA D_
       subst DA; subst D_
       have IF:(s.heap.push (eV led)).get? l=some { cls:=.type "tuple",dict:=Bd,data:=.seq items nl,slots:=vB }:=d_ _ DZ
       have SV:=sub_tuple_set
       have SW:=sub_tuple_frozenset
       have iE:(Value.type "tuple" == Value.type "dict")=false:=by decide
       have Ej:(s.heap.push (eV led)).IsTuple l items:=⟨_,IF,rfl,nl,rfl⟩
       unfold Builtin.«set.__init__» noKeywords Builtin.Frozenset.updateFrom
       generalize SX:pyIter=PI
       wp_walk
       subst SX
       refine wpAny_pyIter_tuple Ej ?_
       refine wpAny_bind (wpAny_runValue ?_)
       have MS:l < s.heap.objs.size:=er DZ
       have SY:A.in1.in1.in1.handled=none:=by simp [hh]
       have IG:l≠(s.heap.push (eV led)).objs.size:=by
        rw [uP]; exact ip (Le MS)
       have KW:s.heap.objs.size∉[(s.heap.push (eV led)).objs.size,l]:=by
        rw [uP]; simp only [cn,r6,dU,or_false,not_or]
        exact ⟨ip (GO _),CD MS⟩
       refine pK ((Walks.tuple SY _ l IG items).toS) s.heap.objs.size
        KW val hi hb (items.size - 0) 0 _ (by omega) (ia _)
        ⟨⟨_,ly _ rfl,rfl,rfl⟩,(Ej.push _)⟩ ?hS0 ?hR
       case hS0 =>
        have IH:((s.heap.push (eV led)).push { cls:=.type "tuple_iterator",data:=.fields #[.ref l,.int 0 0] }).get? s.heap.objs.size
          = some (eV led):=d_ _ hS
        exact SetOf_congr ((setObjOf_fresh (knd:=knd) led).setOf IH (by unfold scanBound; omega)) (fun _=>by simp [met]) rfl
       case hR =>
        intro s' hm Bc
        obtain ⟨h',g',d',S0,LN⟩:=s'
        have eg:g'=s.gens:=hm.gens
        have ed:d'=s.drawn:=hm.drawn
        have eo:LN=s.os:=hm.os
        subst eg; subst ed; subst eo
        show wpAny _ _ _ _ _ _
        refine wpAny_pure ?_
        show wpAny _ _ (ret Value.none) _ _ _
        refine wpAny_pure ⟨rfl,h',S0,rfl,Bc,fun b o hb e=>?_⟩
        have MM:b≠s.heap.objs.size:=ip hb
        have IA:b≠(s.heap.push (eV led)).objs.size:=by
         rw [uP]; exact ip (Le hb)
        exact hm.heap b o (by simp only [cn,r6,dU,or_false,not_or]; exact ⟨MM,IA⟩) (d_ _ (d_ _ e))
     · cases r₂ with
       | error e=>exact IE
       | ok S3 =>
         cases S3 with
         | ret r =>
           obtain ⟨rfl,h',tk,rfl,Bc,MU⟩:=IE
           repeat (any_goals (first | assumption | wp_step))
           refine h _ _ Bc MU ?_
           obtain ⟨o,_,_,_,ho,_⟩:=Bc
           exact er ho
         | _=>exact IE.elim
   | _=>exact hr.elim
end
end VT
namespace VT
open PySem PySem.Spec PyProof.Rows L2
def II (P:Program) (w:World) (a:Addr) (f:Str→Bool) (n:Nat):HO:=.ext fun h=>h.SetOf (PySem.strKind P w) a f n
def once (ys:List Str):List Str:=met (fun i=>ys.getD i Str.empty) ys.length
section
variable {X:Cx}
theorem pL {ys:List Str} {aJ:List Value} (r:Vals (ys.map V.str) aJ) (i:Nat) (v:Value) (h:aJ.toArray[i]?=some v):(PySem.strKind X.prog X.w).is (ys.getD i Str.empty) v=true∧v.scannable=true:=by
 have h':aJ[i]?=some v:=by simpa using h
 have hl:=r.length
 rw [bU] at hl
 have hi:i < ys.length:=by have:=(h9.mp h').1; omega
 obtain ⟨u,hu,ru⟩:=r.get (show (ys.map V.str)[i]?=some (.str ys[i]) by rw [oa,n9 hi]; rfl)
 rw [h'] at hu
 cases hu
 obtain ⟨t,rfl⟩:=ru
 refine ⟨?_,rfl⟩
 rw [List.getD_eq_getElem?_getD,n9 hi]
 show Value.isStrOf ys[i] (.str ys[i] t)=true
 simp [Value.isStrOf]
theorem oO (hc:X.calm=true):cM X (.type "set") (fun xs H Q=>∃ (p:Addr) (ys:List Str),xs=[.ref p]∧(eB X.K H p (ys.map V.str)∨dq X.K H p (ys.map V.str))∧ys.length < 4000 ∧
  ∀ a,H a=none→Q (.ref a) (upd H a (II X.prog X.w a (fun k=>decide (k∈once ys)) (once ys).length))):=by
 intro pins s σ H xs us Q I r h
 obtain ⟨p,ys,rfl,hq,hl,q⟩:=h
 obtain ⟨u,rfl,ru⟩:=vals1 r
 cases ru
 have fin:∀ (n:Nat),n=ys.length→∀ (h':Heap) (tk:Nat),h'.SetOf (PySem.strKind X.prog X.w) s.heap.objs.size (fun k'=>decide (k'∈met (fun i=>ys.getD i Str.empty) n)) (met (fun i=>ys.getD i Str.empty) n).length →
   (∀ b o,b < s.heap.objs.size→s.heap.get? b=some o→h'.get? b=some o)→EP X pins σ Q (.ref s.heap.objs.size) { s with heap:=h',toks:=tk }:=fun n hn h' tk hS hk=>by
  subst hn
  refine ⟨.ref s.heap.objs.size,_,I.laid (a:=s.heap.objs.size) (t':=tk) (fun b o e=>hk b o (er e) e) (dH _) ?_,rfl,q _ I.fresh⟩
  refine ⟨hS,?_,fun h1 h2 z k=>?_⟩
  · obtain ⟨o,_,_,_,ho,_⟩:=hS
    exact ⟨o,ho⟩
  · obtain ⟨o,es,ep,t,ho,rest⟩:=z
    exact ⟨o,es,ep,t,k o ho,rest⟩
 rcases hq with hq | hq
 · obtain ⟨aJ,rv,pl,hz⟩:=I.list hq
   have e:=rv.length
   rw [bU] at e
   exact mK (knd:=PySem.strKind X.prog X.w) (val:=fun i=>ys.getD i Str.empty) (I.ok.hd hc) pl.isList (pL rv) (by unfold scanBound; simp; omega) fun h' tk hS hk _=>fin _ (by simp [e]) h' tk hS hk
 · obtain ⟨aJ,rv,pl,hz⟩:=I.tuple hq
   have e:=rv.length
   rw [bU] at e
   exact k5 (knd:=PySem.strKind X.prog X.w) (val:=fun i=>ys.getD i Str.empty) (I.ok.hd hc) (show s.heap.IsTuple p aJ.toArray from pl) (pL rv) (by unfold scanBound; simp; omega) fun h' tk hS hk _=>fin _ (by simp [e]) h' tk hS hk
theorem oP:cM X (.builtin "len") (fun xs H Q=>∃ a f n,xs=[.ref a]∧H a=some (II X.prog X.w a f n)∧Q (.int (n:Int)) H):=by
 intro pins s σ H xs us Q I r h
 obtain ⟨a,f,n,rfl,ha,q⟩:=h
 obtain ⟨u,rfl,ru⟩:=vals1 r
 cases ru
 obtain ⟨⟨o,es,ep,t,ho,hex,hd,_,_,hb,hf,hn⟩,_⟩:=(show b8 X.prog X.w H s.heap a (II X.prog X.w a f n) from I.bA a _ ha)
 refine PySem.call_len_set ho hex hd hf (by unfold scanBound at hb; omega) ?_
 rw [hn]
 exact ⟨.int n,H,I.tok _,⟨_,rfl⟩,q⟩
theorem boot_set:bootBuiltins "set" = some (.type "set"):=by decide +kernel
end
section
variable {X:Cx} {Z:Zc} {a:Expr} {fa:FE} {p1 p2 Ek yA:Pos}
def El (fa:FE):FP:=fun ρ Q=>fa ρ fun x=>∃ ys:List Str,(x = .lst (ys.map .str)∨x = .tup (ys.map .str))∧ys.length < 4000∧Q (.vw (.int ((once ys).length:Int)))
theorem qM {K:PySem.W.Frag} {H:Hp} {A:List Addr}:∀ {ys:List Str} {vs:List V},au K H A (ys.map T.str) vs→vs=ys.map V.str
 | [],vs,h=>by simpa only [FH,au] using h
 | y :: ys,vs,h=>by
   simp only [fu,au] at h
   obtain ⟨v,r,rfl,h1,h2⟩:=h
   simp only [At] at h1
   rw [h1,qM h2]
   rfl
theorem yB (hc:X.calm=true) (S4:Gl X "len") (W':X.mg "len" = none) (Xa:Gl X "set") (S6:X.mg "set" = none) (ha:VR X Z a fa)
  (he:starEach [.Call (.Name "set" p2) [a] [] yA] X.env=(false,eval (.Call (.Name "set" p2) [a] [] yA) X.env) :: starEach [] X.env:=by rfl) (jU:(backTo Ek (starEach [] X.env)).any (·.1)=false:=by rfl)
  (Vu:starEach [a] X.env=(false,eval a X.env) :: starEach [] X.env:=by rfl) (S7:(backTo yA (starEach [] X.env)).any (·.1)=false:=by rfl) :
  VP X Z (.Call (.Name "len" p1) [.Call (.Name "set" p2) [a] [] yA] [] Ek) (El fa):=.mk fun tm =>
 PE.weak (lZ oP S4 W' h_ (bY (pB (oO hc) Xa S6 boot_set (bY (ha tm) dW Vu) (by decide) (by decide) Vu S7) dW he) (by decide) (by decide) he jU) fun σ H Q ⟨ρ,O,q,I,hf,k⟩ =>
  ⟨ρ,O,_,I,hf,fun x hx v H1 s1 a1=>by
    obtain ⟨ys,hy,hl,hq⟩:=hx
    have src:∃ p,v = .ref p∧(eB X.K H1 p (ys.map V.str)∨dq X.K H1 p (ys.map V.str)):=by
     rcases hy with rfl | rfl
     · obtain ⟨p,vs,rfl,h1,h2⟩:=a1.lst
       rw [qM h2] at h1
       exact ⟨p,rfl,.inl h1⟩
     · obtain ⟨p,vs,rfl,h1,h2⟩:=a1.tup
       rw [qM h2] at h1
       exact ⟨p,rfl,.inr h1⟩
    obtain ⟨p,rfl,hs⟩:=src
    exact ⟨p,ys,rfl,hs,hl,fun b hb=>⟨b,_,_,rfl,aX,k _ hq _ _ (s1.trans (aM hb)) ⟨(I.same s1).same (aM hb),bD⟩⟩⟩⟩
end
end VT
namespace L2
open PySem PySem.Spec PyProof.Rows
section
variable (P:Program) (w:World)
end
section
variable {P:Program} {w:World} {H H':Hp} {h h':Heap} {a:Addr} {o:HO}
end
section
variable {P:Program} {w:World} {H:Hp} {h h':Heap} {x e:Addr} {o':HO}
end
section
variable {fs Ll ex Q2:List Addr} {H H1 H2:Hp} {h h1 h2 h':Heap} {a x e:Addr} {o:HO}
end
section
variable {X:Cx} {pins:List (Addr×Obj)} {σ:List (Option V)} {H H':Hp} {s:Shared} {h':Heap}
end
section
variable {X:Cx}
variable {a b:Expr} {ta tb:TE} {pos:Pos}
variable {tA Lr:TT} {rest:List Expr}
end
section
variable {X:Cx} {pins:List (Addr×Obj)} {σ:St} {H:Hp} {s:Shared} {a:Addr} {xs ys:List V}
end
section
variable {X:Cx} {pins:List (Addr×Obj)} {σ:St} {H:Hp} {s:Shared} {E:Value→Shared→Prop}
end
section
variable {X:Cx} {st:Stmt} {rest:List Stmt} {t u:TS} {e:Expr} {te:TE} {pos:Pos}
end
section
variable {X:Cx} {pos:Pos}
end
section
variable {X:Cx} {pos:Pos}
end
section
variable {X:Cx} {tg:Expr}
end
section
variable {X:Cx} {a b c:Expr} {ta tb tc:TE} {pos:Pos}
end
section
variable {X:Cx} {a b c:Expr} {ta tb tc:TE} {pos:Pos}
end
section
variable {prog:Program} {w:World} {A:Around} {E:Value→Shared→Prop} {s:Shared} {K:PySem.W.Frag} {x dx C f:Addr} {mA:Str→Option Value} {name:Str} {v:Value}
end
section
variable {P:Program} {w:World} {H H':Hp} {h h':Heap} {a C dx:Addr} {fs Ll:List (Str×V)}
end
section
variable {X:Cx} {pins:List (Addr×Obj)} {σ:St} {H:Hp} {s:Shared} {a C dx:Addr} {fs:List (Str×V)} {f:Str} {v:V} {A:Around} {E:Value→Shared→Prop}
end
section
variable {X:Cx} {o e value:Expr} {f:Str} {pos pos' oh:Pos} {ta tv:TE}
end
section
variable {X:Cx} {pins:List (Addr×Obj)} {σ:St} {H:Hp} {s:Shared} {A:Around} {E:Value→Shared→Prop} {Q:Value→Shared→Prop} {c:Value} {b:Bool}
end
section
variable {X:Cx} {e:Expr} {es:List Expr} {te:TE} {t:TA} {pos:Pos}
end
section
variable {X:Cx} {pins:List (Addr×Obj)} {σ:St} {H:Hp} {s s':Shared}
end
section
variable {X:Cx} {CX:wZ} {k:Nat} {f C:Addr} {fd:FuncData} {ps:List Str} {sp:Sp} {Dj:List V} {ds:List Value} {E:XK} {x m:Str} {p pos apos:Pos} {e o:Expr} {es:List Expr} {ta:TE} {t:TA}
end
section
variable {X:Cx} {CX:wZ} {k:Nat} {f C:Addr} {fd:FuncData} {ps ks:List Str} {sp:Sp} {E:XK} {x m:Str} {p pos apos RB:Pos} {e o:Expr} {es:List Expr} {V9:List Keyword} {te ta:TE} {t tk:TA} {nm:Option Str}
variable {g:List Value→List Value→List Value} {gV:List V→List V→List V}
end
section
variable {X:Cx} {x:Str} {p pos:Pos} {e:Expr} {es:List Expr} {t:TA} {id T:String} {r:List V→Hp→VK→Prop}
end
section
variable {κ:Type} [DecidableEq κ]
def gC (aU:List (κ×V)) (k:κ):Option V:=(aU.find? fun kv=>decide (kv.1=k)).map (·.2)
def putK (aU:List (κ×V)) (k:κ) (v:V):List (κ×V) :=
 if (aU.any fun kv=>decide (kv.1=k))=true then aU.map (fun kv=>if kv.1=k then (kv.1,v) else kv) else aU ++ [(k,v)]
def Gb (aU:List (κ×V)) (k:κ):List (κ×V):=aU.filter fun kv=>decide (kv.1≠k)
theorem je {p:κ×V} {r:List (κ×V)} {k:κ} (e:p.1=k):gC (p :: r) k=some p.2:=by simp [gC,Kx,e]
theorem jf {p:κ×V} {r:List (κ×V)} {k:κ} (e:¬ p.1=k):gC (p :: r) k=gC r k:=by simp [gC,Kx,e]
theorem mQ (k:κ):∀ aU:List (κ×V),(aU.any fun kv=>decide (kv.1=k))=(gC aU k).isSome
 | []=>rfl
 | p :: r=>by
   rw [Kz]
   by_cases e:p.1=k
   · simp only [je e,decide_eq_true e,Bool.true_or,Option.isSome_some]
   · rw [jf e,decide_eq_false e,Lh]; exact mQ k r
theorem sX (aU:List (κ×V)) (k:κ) (v:V):(putK aU k v).length≤aU.length+1:=by
 unfold putK
 split
 · rw [bU]; omega
 · rw [kS,wO,List.length_nil]; omega
theorem Be {aU:List (κ×V)} {k:κ} (v:V) (h:gC aU k=none):putK aU k v=aU ++ [(k,v)]:=by
 unfold putK
 rw [mQ,h]
 exact if_neg (by decide)
theorem kT.yC {o:Option V} {u:Option Value} (r:kT o u):o.isSome=u.isSome:=by
 cases o with
 | none=>cases u with
   | none=>rfl
   | some _=>exact (show False from r).elim
 | some _=>cases u with
   | none=>exact (show False from r).elim
   | some _=>rfl
theorem kT.getD {o:Option V} {u:Option Value} {d:V} {d':Value} (r:kT o u) (rd:RelV d d'):RelV (o.getD d) (u.getD d'):=by
 cases o with
 | none=>cases u with
   | none=>exact rd
   | some _=>exact (show False from r).elim
 | some _=>cases u with
   | none=>exact (show False from r).elim
   | some _=>exact r
theorem KV.val {aU:List (κ×V)} {vs:List (κ×Value)} (r:KV aU vs) (k:κ):kT (gC aU k) (valueAt vs k):=by
 unfold KV at r
 induction r with
 | nil=>exact True.intro
 | @cons p q ps qs h t ih =>
   obtain ⟨h1,h2⟩:=h
   by_cases e:p.1=k
   · have e':q.1=k:=h1.symm.trans e
     have b:valueAt (q :: qs) k=some q.2:=by simp [valueAt,Kx,e']
     rw [je e,b]; exact h2
   · have e':¬ q.1=k:=fun z=>e (h1.trans z)
     have b:valueAt (q :: qs) k=valueAt qs k:=by simp [valueAt,Kx,e']
     rw [jf e,b]; exact ih
theorem KV.any {aU:List (κ×V)} {vs:List (κ×Value)} (r:KV aU vs) (k:κ):(aU.any fun kv=>decide (kv.1=k))=vs.any fun kv=>decide (kv.1=k):=by
 unfold KV at r
 induction r with
 | nil=>rfl
 | cons h t ih=>rw [Kz,Kz,ih,h.1]
theorem KV.IJ {aU:List (κ×V)} {vs:List (κ×Value)} (r:KV aU vs) (k:κ) {y:V} {u:Value} (ry:RelV y u) :
  KV (aU.map fun kv=>if kv.1=k then (kv.1,y) else kv) (vs.map fun kv=>if kv.1=k then (kv.1,u) else kv):=by
 unfold KV at r ⊢
 induction r with
 | nil=>exact .nil
 | @cons p q ps qs h t ih =>
   rw [fu,fu]
   refine .cons ?_ ih
   obtain ⟨h1,h2⟩:=h
   by_cases e:p.1=k
   · rw [if_pos e,if_pos (h1.symm.trans e)]; exact ⟨h1,ry⟩
   · rw [if_neg e,if_neg (fun z=>e (h1.trans z))]; exact ⟨h1,h2⟩
theorem KV.put {aU:List (κ×V)} {vs:List (κ×Value)} (r:KV aU vs) (k:κ) {y:V} {u:Value} (ry:RelV y u):KV (putK aU k y) (stored vs k u):=by
 unfold putK stored
 rw [r.any k]
 by_cases e:(vs.any fun kv=>decide (kv.1=k))=true
 · rw [if_pos e,if_pos e]; exact r.IJ k ry
 · rw [if_neg e,if_neg e]; exact Paired.snoc r ⟨rfl,ry⟩
theorem KV.drop {aU:List (κ×V)} {vs:List (κ×Value)} (r:KV aU vs) (k:κ):KV (Gb aU k) (without vs k):=by
 unfold KV at r ⊢
 unfold Gb without
 induction r with
 | nil=>exact .nil
 | @cons p q ps qs h t ih =>
   obtain ⟨h1,h2⟩:=h
   rw [List.filter_cons,List.filter_cons]
   by_cases e:p.1=k
   · have a:¬ decide (p.1≠k)=true:=by simp [e]
     have b:¬ decide (q.1≠k)=true:=by simp [h1.symm.trans e]
     rw [if_neg a,if_neg b]; exact ih
   · have e':¬ q.1=k:=fun z=>e (h1.trans z)
     have a:decide (p.1≠k)=true:=by simp [e]
     have b:decide (q.1≠k)=true:=by simp [e']
     rw [if_pos a,if_pos b]; exact .cons ⟨h1,h2⟩ ih
theorem KV.keys {aU:List (κ×V)} {vs:List (κ×Value)} (r:KV aU vs):aU.map (·.1)=vs.map (·.1):=by
 unfold KV at r
 induction r with
 | nil=>rfl
 | cons h t ih=>rw [fu,fu,ih,h.1]
theorem KV.length {aU:List (κ×V)} {vs:List (κ×Value)} (r:KV aU vs):aU.length=vs.length:=Paired.length r
end
theorem sY {P:Program} {w:World} {k:Key} {u:Value} (r:RelV (kV k) u):(bw P w).is k u=true:=by
 cases k with
 | inl i=>obtain ⟨t,e⟩:=(show ∃ t,u=Value.int i t from r); subst e; exact r9 P w i t
 | inr x=>obtain ⟨t,e⟩:=(show ∃ t,u=Value.str x t from r); subst e; exact r_ P w x t
theorem pM {P:Program} {w:World}:∀ {ks:List Key} {us:List Value},Vals (ks.map kV) us→ItemsAre (bw P w) ks us
 | [],_,r=>by rw [FH] at r; cases r; exact .nil
 | k :: ks,_,r=>by
   rw [fu] at r
   cases r with
   | cons h t=>exact .cons (sY h) (pM t)
abbrev KT (H:Hp):List (List Key×V)→List (List Key×Addr×Value)→Prop:=Paired fun p q=>p.1=q.1∧H q.2.1=some (.tup (p.1.map kV))∧RelV p.2 q.2.2
theorem KT.val {H:Hp} {aU:List (List Key×V)} {xs:List (List Key×Addr×Value)} (r:KT H aU xs) (k:List Key):kT (gC aU k) ((atKey xs k).map (·.2)):=by
 induction r with
 | nil=>exact True.intro
 | @cons p q ps qs h t ih =>
   obtain ⟨h1,_,h2⟩:=h
   by_cases e:p.1=k
   · have e':q.1=k:=h1.symm.trans e
     have b:atKey (q :: qs) k=some q.2:=by simp [atKey,Kx,e']
     rw [je e,b]; exact h2
   · have e':¬ q.1=k:=fun z=>e (h1.trans z)
     have b:atKey (q :: qs) k=atKey qs k:=by simp [atKey,Kx,e']
     rw [jf e,b]; exact ih
theorem KT.IJ {H:Hp} {aU:List (List Key×V)} {xs:List (List Key×Addr×Value)} (r:KT H aU xs) (k:List Key) {y:V} {u:Value} (ry:RelV y u) :
  KT H (aU.map fun kv=>if kv.1=k then (kv.1,y) else kv) (xs.map (putAt k u)):=by
 induction r with
 | nil=>exact .nil
 | @cons p q ps qs h t ih =>
   rw [fu,fu]
   refine .cons ?_ ih
   obtain ⟨h1,h2,h3⟩:=h
   unfold putAt
   by_cases e:p.1=k
   · rw [if_pos e,if_pos (h1.symm.trans e)]; exact ⟨h1,h2,ry⟩
   · rw [if_neg e,if_neg (fun z=>e (h1.trans z))]; exact ⟨h1,h2,h3⟩
theorem KT.put {H:Hp} {aU:List (List Key×V)} {xs:List (List Key×Addr×Value)} (r:KT H aU xs) (k:List Key) {b:Addr} {y:V} {u:Value} (hb:H b=some (.tup (k.map kV))) (ry:RelV y u) :
  KT H (putK aU k y) (storedH xs k b u):=by
 have e:(aU.any fun kv=>decide (kv.1=k))=(atKey xs k).isSome:=by
  rw [mQ,(r.val k).yC,Option.isSome_map]
 unfold putK storedH
 rw [e]
 by_cases q:(atKey xs k).isSome=true
 · rw [if_pos q,if_pos q]; exact r.IJ k ry
 · rw [if_neg q,if_neg q]; exact Paired.snoc r ⟨rfl,hb,ry⟩
theorem KT.keeps {H H':Hp} {aU:List (List Key×V)} {xs:List (List Key×Addr×Value)} (r:KT H aU xs) (ht:∀ b ys,H b=some (.tup ys)→H' b=some (.tup ys)):KT H' aU xs :=
 Paired.lU r fun _ _ z=>⟨z.1,ht _ _ z.2.1,z.2.2⟩
section
variable {P:Program} {w:World} {H:Hp} {h:Heap} {a:Addr}
theorem Gd {u:HO} (ok:jM P w H h) (e:Rd H a u):b8 P w H h a u:=e.ok ok
theorem sZ {aU:List (Key×V)} (ok:jM P w H h) (e:Rd H a (.dK aU)):aU.length≤sizeLine∧(a == sysModules)=false∧∃ vs,KV aU vs∧h.DictOf (bw P w) a vs :=
 show b8 P w H h a (.dK aU) from Gd ok e
theorem MV {aU:List (Key×V)} (ok:jM P w H h) (e:H a=some (.dK aU)):aU.length≤sizeLine∧(a == sysModules)=false∧∃ vs,KV aU vs∧h.DictOf (bw P w) a vs:=sZ ok (.inl e)
theorem vC {ks:List Key} (ok:jM P w H h) (e:H a=some (.tup (ks.map kV))):(tupleKind (bw P w)).is h ks a:=by
 obtain ⟨_,aJ,r,o,h1,h2,n,h3⟩:=(show b8 P w H h a (.tup (ks.map kV)) from ok a _ e)
 exact ⟨o,aJ.toArray,n,h1,h2,h3,by simpa using pM r⟩
theorem xy {aU:List (List Key×V)} (ok:jM P w H h) (e:Rd H a (.dT aU)):aU.length≤sizeLine∧(a == sysModules)=false ∧
  ∃ xs,KT H aU xs∧h.DictOfH (tupleKind (bw P w)) a xs:=by
 obtain ⟨z,y,xs,r,o,es,ep,h1,h2,h3,h4,h5⟩:=(show b8 P w H h a (.dT aU) from Gd ok e)
 refine ⟨z,y,xs,r,o,es,ep,h1,h2,h3,h4,fun x hx=>?_,h5⟩
 have all:∀ {l:List (List Key×V)} {m:List (List Key×Addr×Value)},KT H l m→∀ x∈m,(tupleKind (bw P w)).is h x.1 x.2.1:=by
  intro l m q
  induction q with
  | nil=>intro x hx; exact nomatch hx
  | @cons p q ps qs hq t ih =>
    intro x hx
    rcases cn.mp hx with e | hx
    · subst e
      exact vC ok (by rw [← hq.1]; exact hq.2.1)
    · exact ih x hx
 exact all r x hx
end
def mS (H:Hp) (a:Addr) (y:V) (r:Option V):Prop :=
 (∃ aU k,Rd H a (.dK aU)∧y=kV k∧r=gC aU k)∨∃ aU k b,Rd H a (.dT aU)∧y = .ref b∧H b=some (.tup (k.map kV))∧r=gC aU k
def Em (H:Hp) (a:Addr) (y v:V) (H':Hp):Prop :=
 (∃ aU k,H a=some (.dK aU)∧y=kV k∧aU.length < sizeLine∧H'=upd H a (.dK (putK aU k v))) ∨
 ∃ aU k b,H a=some (.dT aU)∧y = .ref b∧H b=some (.tup (k.map kV))∧aU.length < sizeLine∧H'=upd H a (.dT (putK aU k v))
theorem mS.k {H:Hp} {a:Addr} {aU:List (Key×V)} {k:Key} (e:H a=some (.dK aU)):mS H a (kV k) (gC aU k):=.inl ⟨aU,k,.inl e,rfl,rfl⟩
theorem mS.t {H:Hp} {a b:Addr} {aU:List (List Key×V)} {k:List Key} (e:H a=some (.dT aU)) (eb:H b=some (.tup (k.map kV))):mS H a (.ref b) (gC aU k):=.inr ⟨aU,k,b,.inl e,rfl,eb,rfl⟩
theorem Em.k {H:Hp} {a:Addr} {aU:List (Key×V)} {k:Key} {v:V} (e:H a=some (.dK aU)) (hl:aU.length < sizeLine):Em H a (kV k) v (upd H a (.dK (putK aU k v))):=.inl ⟨aU,k,e,rfl,hl,rfl⟩
theorem Em.t {H:Hp} {a b:Addr} {aU:List (List Key×V)} {k:List Key} {v:V} (e:H a=some (.dT aU)) (eb:H b=some (.tup (k.map kV))) (hl:aU.length < sizeLine) :
 Em H a (.ref b) v (upd H a (.dT (putK aU k v))):=.inr ⟨aU,k,b,e,rfl,eb,hl,rfl⟩
section
variable {X:Cx} {pins:List (Addr×Obj)} {σ:St} {H:Hp} {s:Shared} {a:Addr} {y v:V} {u r:Value} {o:Option V} {A:Around} {E:Value→Shared→Prop}
theorem Inv.big (I:Inv X pins σ H s):sysModules < s.heap.objs.size:=by
 have h:mainGlobals < s.heap.objs.size:=(I.mod.glob.keeps I.bk).lt
 exact Nat.lt_trans (by decide) h
theorem yD {Q:Value→Shared→Prop} (hu:A.units+1 < cLine) (I:Inv X pins σ H s) (g:mS H a y (some v)) (ry:RelV y u) (h:∀ w' s',Inv X pins σ H s'→RelV v w'→Q w' s') :
  wpAny (model X.prog X.w) A (getItem (.ref a) u) Q E s:=by
 rcases g with ⟨aU,k,e,ey,l⟩ | ⟨aU,k,b,e,ey,eb,l⟩
 · subst ey
   obtain ⟨z,hd,vs,rel,dd⟩:=sZ I.bA e
   obtain ⟨w',hw,rw'⟩:=kT.some_of (v:=v) (o:=valueAt vs k) (by rw [l]; exact rel.val k)
   exact wpAny_getItem_of (sY ry) dd.mapOf hw (h w' _ (I.tok _) rw')
 · subst ey
   cases (show u=Value.ref b from ry)
   obtain ⟨z,hd,xs,rel,dd⟩:=xy I.bA e
   obtain ⟨w',hw,rw'⟩:=kT.some_of (v:=v) (o:=(atKey xs k).map (·.2)) (by rw [l]; exact rel.val k)
   obtain ⟨p,hp,Iy⟩:=QW.mp hw
   refine wpAny_getItem_heap (tupleKind_room_in1 hu) (vC I.bA eb) dd hp ?_
   rw [Iy]
   exact h w' _ (I.tok _) rw'
theorem Eo {h':Heap} {t':Nat} {ob:HO} (I:Inv X pins σ H s) (mu:Li (H a)) (hs:Heap.SameBut a s.heap h') (he:∃ q,h'.get? a=some q) (new:b8 X.prog X.w (upd H a ob) h' a ob) :
  Inv X pins σ (upd H a ob) { s with heap:=h',toks:=t' } :=
 I.write (x:=a) (e:=a) mu (.inl rfl) (fun b q hb z=>(hs.2 b hb).trans z) he new
theorem IK {P:Program} {w:World} {H':Hp} {h':Heap} {aU:List (Key×V)} {vs:List (Key×Value)} (z:aU.length≤sizeLine) (hd:(a == sysModules)=false) (rel:KV aU vs) (dd:h'.DictOf (bw P w) a vs) :
 b8 P w H' h' a (.dK aU):=⟨z,hd,vs,rel,dd⟩
end
section
variable {X:Cx} {pins:List (Addr×Obj)} {σ:St} {H:Hp} {s:Shared} {a:Addr} {aU:List (Key×V)} {k:Key} {u:Value} {A:Around} {E:Value→Shared→Prop}
end
def IL (i:Expr):Prop:=∀ ov iv,subscripted i false ov iv=operate [ov,iv] (getItem ov iv)
theorem Ep {prog:Program} {w:World} {A:Around} {E:Value→Shared→Prop} {s:Shared} {env:Env} {value slice:Expr} {pos:Pos} {T id:String} {Q:Value→Shared→Prop}
  (hl:typeLookup (.type T) "__getitem__" = pure (some (.builtin id))) (hs:IL slice)
  (h:wpAny (model prog w) A (eval value env) (fun o s₁=>wpAny (model prog w) A (eval slice env) (fun i s₂=>s₂.TypeIs o T∧wpAny (model prog w) A (getItem o i) Q E s₂) E s₁) E s) :
  wpAny (model prog w) A (eval (.Subscript value slice pos) env) Q E s:=by
 refine Subscript_ (wpAny_mono h (fun o s₁ h₁=>wpAny_mono h₁ (fun i s₂ h₂=>?_) fun _ _ x=>x) fun _ _ x=>x)
 obtain ⟨hT,h₂⟩:=h₂
 unfold subscriptTail
 refine wpAny_bind ?_
 rw [getitemInPython_of_ne hT.not_modules]
 refine wpAny_bind (wpAny_specialOf hT hl ?_)
 have fin:wpAny (model prog w) A (subscripted slice false o i) (fun r s₃=>wpAny (model prog w) A (letTemporaryGo value o r >>= fun _=>pure r) Q E s₃) E s₂:=by
  rw [hs o i]
  exact wpAny_operating (wpAny_mono h₂ (fun r s₃ h₃=>wpAny_bind (wpAny_letTemporaryGo (wpAny_pure h₃))) fun _ _ x=>x)
 first
  | exact wpAny_pure (wpAny_bind fin)
  | exact wpAny_bind (wpAny_pure (wpAny_bind fin))
  | exact wpAny_bind fin
theorem s_ {X:Cx} {pins:List (Addr×Obj)} {σ:St} {H:Hp} {s:Shared} {a:Addr} {y:V} {o:Option V} (I:Inv X pins σ H s) (g:mS H a y o):s.TypeIs (.ref a) "dict":=by
 rcases g with ⟨aU,k,e,_,_⟩ | ⟨aU,k,b,e,_,_,_⟩
 · obtain ⟨_,_,vs,_,dd⟩:=sZ I.bA e
   exact dd.typeIs
 · obtain ⟨_,_,xs,_,dd⟩:=xy I.bA e
   exact dd.typeIs
def MW (td ty:TE):TE:=fun σ H Q=>td σ H fun x H1=>ty σ H1 fun y H2=>∃ a v,x = .ref a∧mS H2 a y (some v)∧Q v H2
section
variable {X:Cx} {o i e value:Expr} {pos pos' oh:Pos} {td ty tv:TE}
theorem Er (hu:X.A.units+1 < cLine) (ho:PE X o td) (hi:PE X i ty) (hs:IL i):PE X (.Subscript o i pos) (MW td ty):=by
 intro pins s σ H Q I h
 refine Ep PySem.F.slot_dict_getitem.lookup hs (cf (ho pins s σ H _ I h) fun u s1 ⟨x,H1,I1,rx,q1⟩=>cf (hi pins s1 σ H1 _ I1 q1) fun iv s2 ⟨y,H2,I2,ry,a,v,ex,g,q2⟩=>?_)
 subst ex
 obtain rfl:u=Value.ref a:=rx
 exact ⟨s_ I2 g,yD hu I2 g ry fun w' s3 I3 rw'=>⟨v,H2,I3,rw',q2⟩⟩
end
theorem Bf {P:Program} {w:World} {H:Hp} (h:Heap) (hb:sysModules < h.objs.size):b8 P w H (h.push { cls:=.type "dict",data:=.dict #[] }) h.objs.size (.dK []) :=
 ⟨ia _,beq_eq_false_iff_ne.mpr (Ne.symm (ip hb)),[],.nil,Heap.DictOf.new h⟩
def IM:TE:=fun _ H Q=>∀ p,H p=none→Q (.ref p) (upd H p (.dK []))
section
variable {X:Cx} {pos:Pos}
theorem Bg:PE X (.Dict [] [] pos) IM:=fun pins s σ H Q I h =>
 wpAny_Dict_empty ⟨.ref s.heap.objs.size,_,I.laid (a:=s.heap.objs.size) (o:=.dK []) (t':=s.toks) (fun _ _ q=>d_ _ q) (dH _) (Bf s.heap I.big),rfl,h _ (I.bA.fresh (dH _))⟩
end
abbrev VV:List (V×V)→List (Value×Value)→Prop:=Paired fun p q=>RelV p.1 q.1∧RelV p.2 q.2
structure M1 (X:Cx) (o:Expr) (m:Str) (apos:Pos) (e:Expr) (a_:Pos):Prop where
 base:attributeBase o m X.env (eval o X.env)=eval o X.env
 S8:((backTo a_ (starEach [e] X.env)).all (fun x=>!x.1) && (backToKw a_ (keywordEach [] X.env)).all (fun x=>x.1.isSome)
  && decide (([e]:List Expr).length+([]:List Keyword).length+(if ([]:List Keyword).isEmpty then 0 else 1) < 30))=true
 line:(apos.endLine == a_.line)=true
 trees:backTo a_ (starEach [e] X.env)=[(false,eval e X.env)]
structure M2 (X:Cx) (o:Expr) (m:Str) (apos:Pos) (e f:Expr) (a_:Pos):Prop where
 base:attributeBase o m X.env (eval o X.env)=eval o X.env
 S8:((backTo a_ (starEach [e,f] X.env)).all (fun x=>!x.1) && (backToKw a_ (keywordEach [] X.env)).all (fun x=>x.1.isSome)
  && decide (([e,f]:List Expr).length+([]:List Keyword).length+(if ([]:List Keyword).isEmpty then 0 else 1) < 30))=true
 line:(apos.endLine == a_.line)=true
 trees:backTo a_ (starEach [e,f] X.env)=[(false,eval e X.env),(false,eval f X.env)]
def Vv (H:Hp) (a:Addr):Prop:=(∃ aU,Rd H a (.dK aU))∨∃ aU,Rd H a (.dT aU)
theorem IP {X:Cx} {pins:List (Addr×Obj)} {σ:St} {H:Hp} {s:Shared} {a:Addr} (I:Inv X pins σ H s) (d:Vv H a) :
  s.TypeIs (.ref a) "dict"∧(∀ b,Value.ref a = .ref b→∃ ob,s.heap.get? b=some ob∧ob.dict=none)∧(a == sysModules)=false:=by
 rcases d with ⟨aU,e⟩ | ⟨aU,e⟩
 · obtain ⟨_,hd,vs,_,dd⟩:=sZ I.bA e
   refine ⟨dd.typeIs,fun b q=>?_,hd⟩
   cases q
   obtain ⟨ob,_,_,h1,h2,_⟩:=dd
   exact ⟨ob,h1,h2.2.1⟩
 · obtain ⟨_,hd,xs,_,dd⟩:=xy I.bA e
   refine ⟨dd.typeIs,fun b q=>?_,hd⟩
   cases q
   obtain ⟨ob,_,_,h1,h2,_⟩:=dd
   exact ⟨ob,h1,h2.2.1⟩
section
variable {X:Cx} {pins:List (Addr×Obj)} {σ:St} {H:Hp} {s:Shared} {a:Addr} {y d:V} {u r:Value} {o:Option V} {A:Around} {E:Value→Shared→Prop}
theorem IQ {Q:Value→Shared→Prop} (hu:A.units+1 < cLine) (I:Inv X pins σ H s) (g:mS H a y o) (ry:RelV y u) (h:∀ w' s',Inv X pins σ H s'→RelV (o.getD .bp) w'→Q w' s') :
  wpAny (model X.prog X.w) A (call (.builtin "dict.get") [.ref a,u]) Q E s:=by
 rcases g with ⟨aU,k,e,ey,l⟩ | ⟨aU,k,b,e,ey,eb,l⟩
 · subst ey
   obtain ⟨z,hd,vs,rel,dd⟩:=sZ I.bA e
   refine call_meetsIn La dd.typeIs QY (QQ _ _) (meets_dict_get (bw X.prog X.w) a (sY ry) hd) ⟨_,dd.mapOf,h _ _ (I.tok _) ?_⟩
   rw [l]
   exact (rel.val k).getD rfl
 · subst ey
   cases (show u=Value.ref b from ry)
   obtain ⟨z,hd,xs,rel,dd⟩:=xy I.bA e
   refine call_meetsIn La dd.typeIs QY (QQ _ _) (meetsH_dict_get (tupleKind (bw X.prog X.w)) a b hd) ⟨tupleKind_room_in1 hu,k,xs,vC I.bA eb,dd,h _ _ (I.tok _) ?_⟩
   rw [l]
   exact (rel.val k).getD rfl
end
def IS (td ty:TE):TE:=fun σ H Q=>td σ H fun x H1=>∃ a,x = .ref a∧Vv H1 a∧ty σ H1 fun y H2=>∃ o,mS H2 a y o∧Q (o.getD .bp) H2
section
variable {X:Cx} {o e f:Expr} {apos a_:Pos} {td ty tx:TE}
theorem Bh (hu:X.A.units+1 < cLine) (ho:PE X o td) (he:PE X e ty) (m:M1 X o "get" apos e a_):PE X (.Call (.Attribute o "get" apos) [e] [] a_) (IS td ty):=by
 intro pins s σ H Q I h
 refine wpAny_Call_method m.base m.S8 m.line QR La PySem.F.type_dict_get (cf (ho pins s σ H _ I h) fun u s1 ⟨x,H1,I1,rx,a,ex,d,q1⟩=>?_)
 subst ex
 obtain rfl:u=Value.ref a:=rx
 obtain ⟨t1,t2,_⟩:=IP I1 d
 refine ⟨t1,t2,?_⟩
 rw [m.trees]
 refine PQ rfl (Calls.evalArgs_plain (Calls.spliced_cons (cf (he pins s1 σ H1 _ I1 q1) fun iv s2 ⟨y,H2,I2,ry,ov,g,q2⟩=>Calls.spliced_nil ?_)))
 exact IQ hu I2 g ry fun w' s3 I3 rw'=>⟨_,H2,I3,rw',q2⟩
end
section
variable {X:Cx} {pins:List (Addr×Obj)} {σ:St} {H:Hp} {s:Shared} {a:Addr} {aU:List (Key×V)} {A:Around} {E:Value→Shared→Prop}
end
section
variable {X:Cx} {pins:List (Addr×Obj)} {σ:St} {H:Hp} {s:Shared} {a:Addr} {y:V} {u:Value} {A:Around} {E:Value→Shared→Prop}
end
end L2
namespace Qe
open PySem PySem.W PySem.Calls PyProof.Rows
section
variable {prog:Program} {w:World} {A:Around} {E:Value→Shared→Prop} {s:Shared} {K:Frag}
end
end Qe
namespace L2
open PySem PySem.Spec PyProof.Rows
section
variable {P:Program} {w:World} {K:PySem.W.Frag} {mg:Str→Option Value} {base:Heap}
end
section
variable {X:Cx}
end
section
variable {κ:Type} [DecidableEq κ]
end
end L2
namespace VT
open PySem PySem.Spec PyProof.Rows L2
def Bi:T→Option Key
 | .int i=>some (.inl i)
 | .str x=>some (.inr x)
 | _=>none
theorem qN {K:PySem.W.Frag} {H:Hp} {A:List Addr} {t:T} {v:V} {k:Key} (h:fU K H A t v) (e:Bi t=some k):v=kV k:=by
 cases t with
 | int i=>cases e; exact h.int
 | str x=>cases e; exact h.str
 | _=>cases e
def ff {α:Type}:List Key→List α→Key→Option α
 | k :: ks,t :: ts,x=>if k=x then some t else ff ks ts x
 | _,_,_=>none
theorem eJ:∀ (ks:List Key) (vs:List V) (x:Key),gC (ks.zip vs) x=ff ks vs x
 | [],vs,x=>rfl
 | k :: ks,[],x=>rfl
 | k :: ks,v :: vs,x=>by
   simp only [ff,List.zip_cons_cons]
   by_cases e:k=x
   · rw [if_pos e,je (p:=(k,v)) e]
   · rw [if_neg e,jf (p:=(k,v)) e]; exact eJ ks vs x
theorem tf {α:Type} (ts:List α) (x:Key):ff [] ts x=none:=by cases ts <;> rfl
theorem gh {K:PySem.W.Frag} {H:Hp} {A:List Addr}:∀ {ks:List Key} {ts:List T} {vs:List V} {x:Key},au K H A ts vs→(∀ t,ff ks ts x=some t→∃ v,ff ks vs x=some v∧At K H A t v)∧(ff ks ts x=none→ff ks vs x=none)
 | [],ts,vs,x,h=>by
   rw [tf,tf]
   refine ⟨fun t e=>?_,fun _=>rfl⟩
   cases e
 | k :: ks,[],vs,x,h=>by
   simp only [au] at h
   subst h
   exact ⟨fun t e=>(by cases e),fun _=>rfl⟩
 | k :: ks,t :: ts,vs,x,h=>by
   simp only [au] at h
   obtain ⟨v,r,rfl,h1,h2⟩:=h
   simp only [ff]
   by_cases e:k=x
   · rw [if_pos e,if_pos e]
     exact ⟨fun t e=>by cases e; exact ⟨v,rfl,h1⟩,fun q=>by cases q⟩
   · rw [if_neg e,if_neg e]
     exact gh h2
section
variable {X:Cx} {Z:Zc} {e a b:Expr} {fa fb fc:FE} {pos:Pos}
def MX:FP:=fun _ Q=>Q (.fr (.dk [] []))
theorem Es:VP X Z (.Dict [] [] pos) MX:=.mk fun tm=>PE.weak Bg fun σ H Q ⟨ρ,O,q,I,hf,k⟩ p hp =>
 k _ hf _ _ (aM hp) (I.newD (ks:=[]) (ts:=[]) (vs:=[]) hp rfl au.nil)
def MY (fa fb:FE):FP:=fun ρ Q=>fa ρ fun x=>fb ρ fun y=>match x,Bi y with
 | .dk ks ts,some k=>∃ t,ff ks ts k=some t∧Q (.vw t)
 | _,_=>False
theorem IT (hu:X.A.units+1 < cLine) (ha:VR X Z a fa) (hb:VR X Z b fb) (hs:IL b:=by intro _ _; rfl):VP X Z (.Subscript a b pos) (MY fa fb):=.mk fun tm=>PE.weak (Er hu (ha tm) (hb tm) hs) fun σ H Q ⟨ρ,O,q,I,hf,k⟩ =>
 ⟨ρ,O,_,I,hf,fun x hx v H1 s1 a1=>⟨ρ,O,_,I.same s1,hx,fun y hy w H2 s2 a2=>by
   split at hy
   · rename_i ks ts kk e
     obtain ⟨t,e1,hq⟩:=hy
     obtain ⟨l,vs,rfl,hl,hd,hv⟩:=(a1.same s2).dk
     obtain ⟨u,e2,e3⟩:=(gh hv).1 t e1
     rw [qN a2 e]
     exact ⟨l,u,rfl,by rw [← e2,← eJ]; exact mS.k hd,k _ hq _ H2 (s1.trans s2) ⟨(I.same s1).same s2,e3⟩⟩
   · exact hy.elim⟩⟩
def S9 (fa fb:FE):FP:=fun ρ Q=>fa ρ fun x=>match x with
 | .dk ks ts=>fb ρ fun y=>match Bi y with
   | some k=>Q (.vw ((ff ks ts k).getD .bp))
   | none=>False
 | _=>False
theorem xA {K:PySem.W.Frag} {H:Hp} {A:List Addr} {ks:List Key} {ts:List T} {vs:List V} {k:Key} {z:T} {w:V} (h:au K H A ts vs) (hz:At K H A z w):At K H A ((ff ks ts k).getD z) ((ff ks vs k).getD w):=by
 cases e:ff ks ts k with
 | none=>rw [(gh h).2 e]; exact hz
 | some t=>obtain ⟨v,e1,e2⟩:=(gh h).1 t e; rw [e1]; exact e2
theorem IU {apos a_:Pos} (hu:X.A.units+1 < cLine) (ha:VR X Z a fa) (hb:VR X Z b fb) (m:M1 X a "get" apos b a_):VP X Z (.Call (.Attribute a "get" apos) [b] [] a_) (S9 fa fb):=.mk fun tm=>PE.weak (Bh hu (ha tm) (hb tm) m) fun σ H Q ⟨ρ,O,q,I,hf,k⟩ =>
 ⟨ρ,O,_,I,hf,fun x hx v H1 s1 a1=>by
   split at hx
   · rename_i ks ts
     obtain ⟨l,vs,rfl,hl,hd,hv⟩:=a1.dk
     refine ⟨l,rfl,.inl ⟨_,.inl hd⟩,ρ,O,_,I.same s1,hx,fun y hy w H2 s2 a2=>?_⟩
     split at hy
     · rename_i kk e
       rw [qN a2 e]
       refine ⟨_,mS.k (s2 _ _ hd),?_⟩
       rw [eJ]
       exact k _ hy _ H2 (s1.trans s2) ⟨(I.same s1).same s2,xA (hv.same s2) iF⟩
     · exact hy.elim
   · exact hx.elim⟩
end
def Ge (w:World) (K:PySem.W.Frag) (e:DictEntry) (p:Str×T):Prop:=e.hash=PyData.keyHash w.params p.1∧(∃ t,e.key = .str p.1 t)∧∃ v,RelV v e.val∧∀ H A,At K H A p.2 v
def tq (w:World) (K:PySem.W.Frag) (a:Addr) (l:List (Str×T)):Prop:=∃ es ep,K.lookup a=some ⟨.type "dict",none,.dict es ep,#[]⟩∧(a == sysModules)=false∧Paired (Ge w K) es.toList l∧(l.map (·.1)).Nodup
theorem ents {P:Program} {w:World} {K:PySem.W.Frag}:∀ {es:List DictEntry} {l:List (Str×T)},Paired (Ge w K) es l →
  ∃ (vs:List V) (us:List (Key×Value)),(∀ H A,au K H A (l.map (·.2)) vs)∧KV ((l.map fun p=>(Sum.inr p.1:Key)).zip vs) us∧PySem.Pairs (bw P w) es us∧us.map (·.1)=l.map (fun p=>(Sum.inr p.1:Key))∧∀ e∈es,∃ k,(bw P w).is k e.key=true∧e.hash=(bw P w).hash k
 | _,_,.nil=>⟨[],[],fun _ _=>au.nil,.nil,.nil,rfl,fun _ h=>nomatch h⟩
 | _,_,.cons (a:=e) (b:=p) r t=>by
   obtain ⟨vs,us,h1,h2,h3,h4,h5⟩:=ents (P:=P) t
   obtain ⟨r1,⟨tk,r2⟩,v,r3,r4⟩:=r
   have hk:(bw P w).is (Sum.inr p.1) e.key=true:=by
    rw [r2]
    show Value.isStrOf p.1 (.str p.1 tk)=true
    simp [Value.isStrOf]
   refine ⟨v :: vs,(Sum.inr p.1,e.val) :: us,fun H A=>au.cons (r4 H A) (h1 H A),.cons ⟨rfl,r3⟩ h2,.cons hk rfl h3,by rw [fu,fu,h4],fun e' he=>?_⟩
   rcases cn.mp he with q | q
   · subst q
     exact ⟨Sum.inr p.1,hk,r1⟩
   · exact h5 e' q
theorem tq.of {X:Cx} {pins:List (Addr×Obj)} {σ:St} {H:Hp} {s:Shared} {a:Addr} {l:List (Str×T)} (I:Inv X pins σ H s) (d:tq X.w X.K a l) :
  ∃ (vs:List V) (us:List (Key×Value)),(∀ H A,au X.K H A (l.map (·.2)) vs)∧KV ((l.map fun p=>(Sum.inr p.1:Key)).zip vs) us∧s.heap.DictOf (bw X.prog X.w) a us∧(a == sysModules)=false:=by
 obtain ⟨es,ep,lk,hs,hp,nd⟩:=d
 obtain ⟨vs,us,h1,h2,h3,h4,h5⟩:=ents (P:=X.prog) hp
 refine ⟨vs,us,h1,h2,⟨_,es,ep,I.uR a _ lk,⟨rfl,rfl,rfl⟩,rfl,fun e he=>h5 e (by simpa using he),h3,?_⟩,hs⟩
 rw [h4]
 have e:(l.map fun p=>(Sum.inr p.1:Key))=(l.map (·.1)).map Sum.inr:=by rw [x6]; rfl
 rw [e]
 exact List.Pairwise.map _ (fun a b h z=>h (Sum.inr.inj z)) nd
section
variable {X:Cx} {Z:Zc} {e c:Expr} {fe fc:FE} {x:Str} {p apos a_:Pos} {a:Addr} {l:List (Str×T)}
def Et (l:List (Str×T)) (k:Str):Option T:=ff (l.map fun p=>(Sum.inr p.1:Key)) (l.map (·.2)) (Sum.inr k)
def onStr (t:T) (f:Str→Prop):Prop:=match t with
 | .str k=>f k
 | _=>False
theorem Bj {t:T} {f:Str→Prop} (h:onStr t f):∃ k,t = .str k∧f k:=by
 unfold onStr at h
 split at h
 · exact ⟨_,rfl,h⟩
 · exact h.elim
def S_ (l:List (Str×T)) (fe:FE):FP:=fun ρ Q=>fe ρ fun y=>onStr y fun k=>Q (.vw ((Et l k).getD .bp))
theorem tu (hg:Gl X x) (hm:X.mg x=some (.ref a)) (d:tq X.w X.K a l) (he:VR X Z e fe) (m:M1 X (.Name x p) "get" apos e a_) (hd:(x == ("__debug__" : Str))=false:=by decide) :
  VP X Z (.Call (.Attribute (.Name x p) "get" apos) [e] [] a_) (S_ l fe):=.mk fun tm pins s σ H Q I ⟨ρ,O,q,E,hf,k⟩=>by
 refine wpAny_Call_method m.base m.S8 m.line QR La PySem.F.type_dict_get (cf (wX hg hm (v:=.ref a) rfl hd pins s σ H (fun v H'=>v = .ref a∧H'=H) I ⟨rfl,rfl⟩) fun u s1 ⟨x',H1,I1,rx,ex,eH⟩=>?_)
 subst ex eH
 obtain rfl:u=Value.ref a:=rx
 obtain ⟨vs,us,h1,h2,dd,hs⟩:=d.of I1
 refine ⟨dd.typeIs,fun b q=>?_,?_⟩
 · cases q
   obtain ⟨ob,_,_,z1,z2,_⟩:=dd
   exact ⟨ob,z1,z2.2.1⟩
 rw [m.trees]
 refine PQ rfl (Calls.evalArgs_plain (Calls.spliced_cons (cf (he tm pins s1 σ H1 (fun y H2=>∃ t,fU X.K H2 (av Z O) t y∧aK H1 H2∧onStr t fun k=>q (.vw ((Et l k).getD .bp))) I1 ⟨ρ,O,_,E,hf,fun t ht v H' s a1=>⟨t,a1,s,ht⟩⟩) fun iv s2 ⟨y,H2,I2,ry,t,a1,sa,q3⟩=>Calls.spliced_nil ?_)))
 obtain ⟨kk,et,q3⟩:=Bj q3
 subst et
 obtain ⟨iT,Qw,Ip,AY,MZ,Qp⟩:=d.of I2
 have ey:=a1.str
 subst ey
 refine call_meetsIn La MZ.typeIs QY (QQ _ _) (meets_dict_get (bw X.prog X.w) a (sY (k:=Sum.inr kk) ry) Qp) ⟨_,MZ.mapOf,⟨_,H2,I2.tok _,(AY.val (Sum.inr kk)).getD (d:=.bp) rfl,?_⟩⟩
 rw [eJ]
 exact k _ q3 _ H2 sa ⟨E.same sa,xA (Ip H2 (av Z O)) iF⟩
end
end VT
namespace Gen
open PySem L2 VT
open xi (ba)
theorem small {n:Nat} (h:n≤1000):n≤sizeLine:=Nat.le_of_lt (yj h)
def fH (n:Int):Nat:=ba.cps.toList.getD (n % 26).toNat 0
theorem tw:ba.cps.toList.length=26:=by decide +kernel
theorem qO:ba.length=26:=by decide +kernel
theorem fg:ba.length≤sizeLine:=by rw [qO,sizeLine_eq]; decide
theorem pN (n:Int):jW ba.cps.toList (n % 26)=some (fH n):=by
 have h0:0≤n % 26:=lT n (by decide)
 have h1:n % 26 < 26:=pd n (by decide)
 unfold fH
 obtain ⟨j,hj⟩:=GK h0
 rw [hj]
 have fz:j < ba.cps.toList.length:=by rw [tw]; omega
 refine aG ?_
 rw [Fy,List.getD,n9 fz]
 rfl
def oQ (c:Int):Int:=c % 1000000000000
def ig (c:Int):Nat:=(1+oQ c % 7).toNat
def yE (c:Int):Nat:=(oQ c / 7 % (ig c:Int)).toNat
def qP (c:Int) (k j:Nat):Int:=oQ c / 49 / ((j:Int)+1)+(j:Int) * (j:Int)+(if j=yE c then (k:Int) else 0)
def bT (c:Int) (k n:Nat):Str:=⟨((List.range n).map fun j=>fH (qP c k j)).toArray⟩
def cL (c:Int) (m:Nat):List Str :=
 if oQ c / 49 % 3=1 then ((List.range m).map fun k=>bT c k (ig c)).set 1 (bT c 0 (ig c) ++ ⟨#[fH (oQ c / 147)]⟩) else (List.range m).map fun k=>bT c k (ig c)
theorem Gf (c:Int):((ig c:Nat):Int)=1+oQ c % 7:=by
 unfold ig
 have:0≤oQ c % 7:=lT _ (by decide)
 omega
theorem mT (c:Int):1≤ig c∧ig c≤7:=by
 have:=Gf c
 have h0:0≤oQ c % 7:=lT _ (by decide)
 have h1:oQ c % 7 < 7:=pd _ (by decide)
 omega
theorem Gg (c:Int):((yE c:Nat):Int)=oQ c / 7 % (ig c:Int):=by
 unfold yE
 have h:=mT c
 have:0≤oQ c / 7 % (ig c:Int):=lT _ (by omega)
 omega
theorem M0 (c:Int):yE c < ig c:=by
 have h:=mT c
 have h1:=Gg c
 have:oQ c / 7 % (ig c:Int) < ig c:=pd _ (by omega)
 omega
theorem vD (c:Int) (k n:Nat):bT c k (n+1)=bT c k n ++ ⟨#[fH (qP c k n)]⟩:=by
 unfold bT
 rw [List.range_succ,qd]
 show _=Str.mk (_ ++ _)
 congr 1
 simp
theorem ei (c:Int) (k n:Nat):(bT c k n).length=n:=by
 unfold bT Str.length
 simp
theorem vE (c:Int) (m:Nat):(cL c m).length=m:=by
 unfold cL
 split <;> simp
theorem M5:(10:Int) ^ (12:Int).toNat=1000000000000:=by decide +kernel
inductive lL where
 | nm (x:Str)
 | nu (i:Int)
inductive Ky where
 | fld (x:Str)
 | op (o:lL)
inductive Rw where
 | df (f:Str) (ps:List Str)
 | give (a:lL)
 | put (x:Str) (a:lL)
 | xB (x:Str) (a:lL) (op:Str) (b:lL)
 | new (x:Str)
 | get (x r:Str) (k:Ky)
 | set (r:Str) (k:Ky) (a:lL)
 | call (x f:Str) (as:List lL)
 | fail (w:Str)
 | CO (a:lL)
 | M6
 | uL (a:lL)
 | fin
 | skip
def jg:lL→T
 | .nm x=>.str x
 | .nu i=>.int i
def zW:Ky→T
 | .fld x=>.str ((("." : String):Str) ++ x)
 | .op o=>jg o
def aN:Rw→T
 | .df f ps=>.tup [.str "def",.str f,.tup (ps.map .str)]
 | .give a=>.tup [.str "give",jg a]
 | .put x a=>.tup [.str "put",.str x,jg a]
 | .xB x a op b=>.tup [.str "do",.str x,jg a,.str op,jg b]
 | .new x=>.tup [.str "new",.str x]
 | .get x r k=>.tup [.str "get",.str x,.str r,zW k]
 | .set r k a=>.tup [.str "set",.str r,zW k,jg a]
 | .call x f as=>.tup [.str "call",.str x,.str f,.tup (as.map jg)]
 | .fail w=>.tup [.str "fail",.str w]
 | .CO a=>.tup [.str "if",jg a]
 | .M6=>.tup [.str "else"]
 | .uL a=>.tup [.str "while",jg a]
 | .fin=>.tup [.str "end"]
 | .skip=>.tup [.str "skip"]
def cv (ys:List Str):lL→Prop
 | .nm x=>x∈ys
 | .nu i=>-1000000000000000000000000000000≤i∧i < 1000000000000000000000000000000
def vF (ys:List Str):Ky→Prop
 | .fld x=>x∈ys
 | .op o=>cv ys o
abbrev Plan:=List (Str×List Str)
def reckon:List Str:=["plus","minus","times","over","rest","less","same"]
def fI (ys:List Str) (later:Plan):Rw→Prop
 | .put x a=>x∈ys∧cv ys a
 | .xB x a op b=>x∈ys∧cv ys a∧op∈reckon∧cv ys b
 | .new x=>x∈ys
 | .get x r k=>x∈ys∧r∈ys∧vF ys k
 | .set r k a=>r∈ys∧vF ys k∧cv ys a
 | .call x f as=>x∈ys∧(∃ ps,(f,ps)∈later∧as.length=ps.length)∧∀ a∈as,cv ys a
 | .fail w=>w∈ys
 | .skip=>True
 | _=>False
def bb (p:Str×List Str):T:=.tup [.str p.1,.tup (p.2.map .str)]
theorem jh {ys:List Str} (hl:ys.length=6) {n:Int} {m:Nat} (hm:0 < m) (Yz:m≤6):∃ y∈ys,jW (ys.map T.str) (n % (m:Int))=some (T.str y):=by
 have h0:0≤n % (m:Int):=lT n (by omega)
 have h1:n % (m:Int) < m:=pd n (by omega)
 obtain ⟨j,hj⟩:=GK h0
 have fz:j < ys.length:=by omega
 refine ⟨ys[j],GP fz,?_⟩
 rw [hj]
 refine aG ?_
 rw [oa,n9 fz]
 rfl
theorem M7:(10:Int) ^ (30:Int).toNat=1000000000000000000000000000000:=by decide +kernel
theorem M8:(10:Int) ^ (9:Int).toNat=1000000000:=by decide +kernel
theorem M9:(10:Int) ^ (6:Int).toNat=1000000:=by decide +kernel
theorem S':((("." : String):Str)).length=1:=by decide +kernel
theorem M_ (i:Int):∃ op∈reckon,jW [T.str "plus",T.str "minus",T.str "times",T.str "over",T.str "rest",T.str "less",T.str "same"] (i % 7)=some (T.str op):=by
 have h0:0≤i % 7:=lT i (by decide)
 have h1:i % 7 < 7:=pd i (by decide)
 obtain ⟨j,hj⟩:=GK h0
 rw [hj] at h1 ⊢
 have:j=0∨j=1∨j=2∨j=3∨j=4∨j=5∨j=6:=by omega
 rcases this with rfl | rfl | rfl | rfl | rfl | rfl | rfl
 · exact ⟨"plus",by simp [reckon],aG rfl⟩
 · exact ⟨"minus",by simp [reckon],aG rfl⟩
 · exact ⟨"times",by simp [reckon],aG rfl⟩
 · exact ⟨"over",by simp [reckon],aG rfl⟩
 · exact ⟨"rest",by simp [reckon],aG rfl⟩
 · exact ⟨"less",by simp [reckon],aG rfl⟩
 · exact ⟨"same",by simp [reckon],aG rfl⟩
theorem IV {ys:List Str} (hl:ys.length=6) (n:Int):∃ y∈ys,jW (ys.map T.str) (4+n % 2)=some (T.str y):=by
 have h0:0≤n % 2:=lT n (by decide)
 have h1:n % 2 < 2:=pd n (by decide)
 obtain ⟨j,hj⟩:=GK h0
 have fz:4+j < ys.length:=by omega
 refine ⟨ys[4+j],GP fz,?_⟩
 rw [hj]
 have e:(4:Int)+(j:Int)=((4+j:Nat):Int):=by omega
 rw [e]
 refine aG ?_
 rw [oa,n9 fz]
 rfl
def kb (ys:List Str) (pl:Plan) (bB:List Str) (new:List Rw) (cV:List Str):Prop :=
 (∃ o,cv ys o∧new=[.CO o]∧cV=bB ++ ([("if" : Str)]:List Str))∨(∃ o,cv ys o∧new=[.uL o]∧cV=bB ++ ([("while" : Str)]:List Str)) ∨
 (∃ y,y∈ys∧new=[.uL (.nm y),.xB y (.nm y) "minus" (.nu 1)]∧cV=bB ++ ([("while" : Str)]:List Str))∨(∃ s0,bB=s0 ++ ([("if" : Str)]:List Str)∧new=[.M6]∧cV=s0 ++ ([("else" : Str)]:List Str)) ∨
 (∃ s0 x,bB=s0 ++ [x]∧new=[.fin]∧cV=s0)∨(∃ r,fI ys pl r∧new=[r]∧cV=bB)
theorem Eu {ys:List Str} {pl:Plan} {bB new cV} (h:kb ys pl bB new cV):new.length+cV.length≤bB.length+3:=by
 rcases h with ⟨o,_,rfl,rfl⟩ | ⟨o,_,rfl,rfl⟩ | ⟨y,_,rfl,rfl⟩ | ⟨s0,rfl,rfl,rfl⟩ | ⟨s0,x,rfl,rfl,rfl⟩ | ⟨r,_,rfl,rfl⟩ <;> simp <;> omega
def kc (ys:List Str) (pl:Plan):Prop:=∀ (k:Nat) f ps,pl[k]?=some (f,ps)→ys[k]?=some f∧∃ (a:Int) (r:Nat),r≤2∧ps=(List.range r).map fun j=>ys.getD ((a+((j:Nat):Int)) % 4).toNat Str.empty
theorem Bk {ys:List Str} (hl:ys.length=6) (n:Int):jW (ys.map T.str) (n % 4)=some (T.str (ys.getD (n % 4).toNat Str.empty)):=by
 have h0:0≤n % 4:=lT n (by decide)
 have h1:n % 4 < 4:=pd n (by decide)
 obtain ⟨j,hj⟩:=GK h0
 have fz:j < ys.length:=by omega
 rw [hj]
 refine aG ?_
 rw [oa,Fy,List.getD,n9 fz]
 rfl
inductive Body (ys:List Str) (later:Plan):List Str→List Rw→Prop
 | nil:Body ys later [] []
 | step {bB cV:List Str} {body new:List Rw}:Body ys later bB body→kb ys later bB new cV→Body ys later cV (body ++ new)
inductive Pre (ys:List Str) (pl:Plan):Nat→List Rw→Prop
 | zero:Pre ys pl 0 []
 | succ {k:Nat} {rs:List Rw} {f:Str} {ps:List Str} {bB:List Str} {body:List Rw} {o:lL} {sk:List Rw}:Pre ys pl k rs→pl[k]?=some (f,ps)→Body ys (pl.drop (k+1)) bB body→cv ys o→(sk=[]∨sk=[.skip]) →
    Pre ys pl (k+1) (rs ++ (.df f ps :: (body ++ (List.replicate bB.length .fin ++ (.give o :: sk)))))
theorem cW {α:Type} {f:α→T} (h:∀ x,plainT (f x)=true):∀ l:List α,b5 (l.map f)=true
 | []=>by simp [b5]
 | x :: l=>by simp only [fu,b5,h x,cW h l,Bool.and_self]
theorem eK {α:Type} {f:α→T} {n:Nat} (h:∀ x,dep (f x)≤n):∀ l:List α,md (l.map f)≤n
 | []=>by simp [md]
 | x :: l=>by have:=h x; have:=eK h l; simp only [fu,md]; omega
theorem vG (p:Str×List Str):plainT (bb p)=true:=by simp [bb,plainT,b5,cW (f:=T.str) (fun _=>by simp [plainT])]
theorem tD (pl:Plan):plainT (.lst (pl.map bb))=true:=by simp only [plainT]; exact cW vG pl
theorem Bl (p:Str×List Str):dep (bb p)≤2:=by
 have:=eK (f:=T.str) (n:=0) (fun _=>by simp [dep]) p.2
 simp only [bb,dep,md]; omega
theorem yF (pl:Plan):dep (.lst (pl.map bb))≤100:=by have:=eK (f:=bb) (n:=2) Bl pl; simp only [dep]; omega
theorem kd (o:lL):plainT (jg o)=true:=by cases o <;> simp [jg,plainT]
theorem yG (o:Ky):plainT (zW o)=true:=by cases o with | fld x=>simp [zW,plainT] | op o=>exact kd o
theorem vH (r:Rw):plainT (aN r)=true:=by
 cases r <;> simp [aN,plainT,b5,kd,yG,cW (f:=T.str) (fun _=>by simp [plainT]),cW (f:=jg) kd]
theorem qQ (o:lL):dep (jg o)=0:=by cases o <;> simp [jg,dep]
theorem Ew (o:Ky):dep (zW o)=0:=by cases o with | fld x=>simp [zW,dep] | op o=>exact qQ o
theorem Bm (r:Rw):dep (aN r)≤2:=by
 have h1:=fun l:List Str=>eK (f:=T.str) (n:=0) (fun _=>by simp [dep]) l
 have h2:=fun l:List lL=>eK (f:=jg) (n:=0) (fun o=>by simp [qQ]) l
 cases r <;> simp [aN,dep,md,qQ,Ew] <;> first | (rename_i x; have:=h1 x; omega) | (rename_i x; have:=h2 x; omega) | skip
theorem qR (o:lL):jY (jg o)=true:=by cases o <;> simp [jg,jY]
theorem Ex (o:Ky):jY (zW o)=true:=by cases o with | fld x=>simp [zW,jY] | op o=>exact qR o
theorem ji {α:Type} {f:α→T} (h:∀ x,jY (f x)=true):∀ l:List α,oz (l.map f)=true
 | []=>by simp [oz]
 | x :: l=>by simp only [fu,oz,h x,ji h l,Bool.and_self]
theorem Bn (r:Rw):jY (aN r)=true:=by
 cases r <;> simp [aN,jY,oz,qR,Ex,ji (f:=T.str) (fun _=>by simp [jY]),ji (f:=jg) qR]
end Gen
namespace cD
open PySem L2 VT Gen xi
def top (i:Nat):Stmt:=PySem.Challenge.pw_slicewise_k09_programs_written_and_read.main.body.getD i (.Pass ⟨0,0,0,0⟩)
abbrev dR:Stmt:=top 13
abbrev fJ:Stmt:=top 14
abbrev d6:Stmt:=top 15
abbrev gi:Stmt:=top 16
abbrev jj:Stmt:=top 17
structure Qx (mg:Str→Option Value):Prop where
 H:∃ t,mg "H" = some (.int 1000000000000000000000000000000 t)
 Ey:∃ t,mg "LETTERS" = some (.str ba t)
 qS:∃ t,mg "LONGEST_NAME" = some (.int 8 t)
 isinstance:mg "isinstance" = none
 int:mg "int" = none
 bool:mg "bool" = none
 str:mg "str" = none
 len:mg "len" = none
 all:mg "all" = none
theorem cZ {n:Nat} (h:n≤1000):n≤sizeLine:=small h
def jk:T→Bool
 | .lst _=>false
 | .dk _ _=>false
 | .dt _ _=>false
 | .df _ _ _=>false
 | .dz _ _ _=>false
 | .kt _=>false
 | .ins _ _ _=>false
 | .pin _ _=>false
 | .ob _=>false
 | .ty _=>false
 | _=>true
def M':T→Bool
 | .int i=>decide (-1000000000000000000000000000000≤i) && decide (i < 1000000000000000000000000000000)
 | _=>false
def dS:T→Bool
 | .str x=>bq x
 | _=>false
def Na (ts:List T) (q:Rt→Prop):Prop:=∃ t,ts=[t]∧jk t=true∧q (.vw (.bl (M' t)))
def gu (ts:List T) (q:Rt→Prop):Prop:=∃ t,ts=[t]∧jk t=true∧(∀ x,t = .str x→x.length≤1000)∧q (.vw (.bl (dS t)))
def Bo (r:Rt) (A:Prop) (B:Prop):Prop:=match r with
 | .vw (.bl true)=>A
 | .vw (.bl false)=>B
 | _=>False
theorem Bp {c d:Bool} {q:Rt→Prop} (h:q (.vw (.bl (c && d)))):Bo (.vw (.bl c)) (q (.vw (.bl d))) (q (.vw (.bl false))):=by
 cases c with
 | _=>exact h
theorem fK {c:Bool} {A B:Prop} (h1:c=true→A) (h2:c=false→B):Bo (.vw (.bl c)) A B:=by
 cases c with
 | true=>exact h1 rfl
 | false=>exact h2 rfl
theorem qT:∀ l:List Nat,bS (l.map ((fun t:T=>match t with | .str y=>.bl (sU y ba) | _=>.bp) ∘ fun c=>T.str ⟨#[c]⟩))=some (l.map ym)
 | []=>rfl
 | c :: l=>by
   rw [fu,fu]
   show (bS _).map _=_
   rw [qT l]
   rfl
section
variable {P:Program} {w:World} {K:PySem.W.Frag} {mg:Str→Option Value} {base:Heap}
abbrev kM:List Str:=["thing"]
theorem jl:aE kM ["thing"] (ak dR):=⟨rfl,rfl,rfl,by decide +kernel,rfl,by decide +kernel,by decide +kernel⟩
theorem yH {f:Addr} {fd:FuncData} (D:Df K mg "is_number" dR ["thing"] f fd) (M:Qx mg):bX P w K mg base "is_number" ["thing"] 1 (bR K 1 Na):=by
 refine D.gA (gN D.F jl rfl fun bZ A outer s H E Ox hr ts q hG=>?_)
 have nd:=jl.nd
 obtain ⟨tH,mH⟩:=M.H
 have Vw:∀ {pos},VP (ib jN P w K mg base kM "is_number" (ak dR) f bZ A outer s H E).r0 ⟨H,[],Ox⟩ (.Name "H" pos) (fC (.int 1000000000000000000000000000000)):=dI (by rfl) mH (v:=.int 1000000000000000000000000000000) ⟨tH,rfl⟩ fun _ _=>bD
 refine ⟨_,(af (aw (VP.vx (iH (bF mz (by rfl) M.isinstance (by rfl) M.int xw (aa 0)) (iH (AI (bF pI (by rfl) M.isinstance (by rfl) M.bool A4 (aa 0))) (iG (A1 Am FN (VP.vr (iI (VP.vr Vw))) (aa 0) (VP.vr Vw)))))))),fun _=>?_⟩
 obtain ⟨t,rfl,ht,hq⟩:=hG
 cases t with
 | bp=>exact ⟨rfl,hq⟩
 | bl b=>exact ⟨rfl,rfl,hq⟩
 | str x=>exact ⟨rfl,hq⟩
 | tup l=>exact ⟨rfl,hq⟩
 | int i =>
   refine ⟨rfl,rfl,?_⟩
   have fj:q (.vw (.bl (decide (-1000000000000000000000000000000≤i) && decide (i < 1000000000000000000000000000000)))):=hq
   exact Bp (c:=decide (-1000000000000000000000000000000≤i)) fj
 | _=>cases ht
abbrev ke:List Str:=["thing"]
theorem mU:aE ke ["thing"] (ak fJ):=⟨rfl,rfl,rfl,by decide +kernel,rfl,by decide +kernel,by decide +kernel⟩
theorem oR:(ke ++ (["sign"]:List Str)).Nodup:=by decide +kernel
theorem Ez {f:Addr} {fd:FuncData} (D:Df K mg "is_name" fJ ["thing"] f fd) (M:Qx mg):bX P w K mg base "is_name" ["thing"] 1 (bR K 1 gu):=by
 refine D.gA (gN D.F mU rfl fun bZ A outer s H E Ox hr ts q hG=>?_)
 have nd:=mU.nd
 have np:∀ {i:Nat},aT ⟨H,[],Ox⟩ i:=kK
 obtain ⟨tL,mL⟩:=M.Ey
 obtain ⟨tN,mN⟩:=M.qS
 have mV:∀ {pos},VP (ib jN P w K mg base ke "is_name" (ak fJ) f bZ A outer s H E).r0 ⟨H,[],Ox⟩ (.Name "LONGEST_NAME" pos) (fC (.int 8)):=dI (by rfl) mN (v:=.int 8) ⟨tN,rfl⟩ fun _ _=>bD
 refine ⟨_,(ae (aQ (VW.vc (fE (cu (bV (bF eG (by rfl) M.isinstance (by rfl) M.str mD (aa 0)))) (eD (cu (A2 Am Am (VP.vr ag) (VP.vr (ax az aB (by rfl) M.len h_ (aj (aa 0) ao))) (VP.vr mV))))))
    (af (aw (VP.vx fD)))
    ay)
   (af (aw (VP.vx (ax (bM rfl) dB (by rfl) M.all mB (aj (VP.vr (dM (ts:=["sign"]) rfl (by rfl) (da (ai 0)) (fun _ _ _ _ _ _=>(aI (i:=1) oR rfl (Or.inl rfl) np)) (fun _ _ _ _ _ _=>cC) (fun _ _ _ _ _ _=>(VP.ve (AZ (aa 1) (VP.vr (dI (by rfl) mL (v:=.str ba) ⟨tL,rfl⟩ fun _ _=>bE))))))) ao)))))),fun _=>?_⟩
 obtain ⟨t,rfl,ht,hx,hq⟩:=hG
 cases t with
 | bp=>exact ⟨rfl,hq⟩
 | bl b=>exact ⟨rfl,hq⟩
 | int x=>exact ⟨rfl,hq⟩
 | tup l=>exact ⟨rfl,hq⟩
 | str x =>
   have hl:=hx x rfl
   have fj:q (.vw (.bl (decide (1≤(x.length:Int)) && (decide ((x.length:Int)≤8) && x.cps.toList.all ym)))):=hq
   refine ⟨rfl,cZ hl,fK (c:=decide (1≤(x.length:Int))) (fun h1=>?_) (fun h1=>?_)⟩
   · rw [h1,uI] at fj
     refine sr (fun h2=>?_) (fun h2=>?_)
     · have AY:(!decide ((x.length:Int)≤8))=true:=h2
       have h3:decide ((x.length:Int)≤8)=false:=by simpa using AY
       rw [h3,z9] at fj
       exact fj
     · have AY:¬ (!decide ((x.length:Int)≤8))=true:=h2
       have h3:decide ((x.length:Int)≤8)=true:=by simpa using AY
       rw [h3,uI] at fj
       refine ⟨rfl,by rw [bU,Fw]; exact cZ hl,fG (fun _=>true) (fun t=>match t with | .str y=>.bl (sU y ba) | _=>.bp) (fun t ht k r h=>?_) ?_⟩
       · obtain ⟨c,_,rfl⟩:=iV.mp ht
         exact ⟨_,rfl,h⟩
       · rw [PM.mpr (fun _ _=>rfl),x6]
         refine ⟨x.cps.toList.map ym,qT x.cps.toList,?_⟩
         rw [KC]
         exact fj
   · rw [h1,z9] at fj
     exact fj
 | _=>cases ht
end
def gj (t:T):Bool:=dS t || M' t
def Bq (ts:List T) (q:Rt→Prop):Prop:=∃ t,ts=[t]∧jk t=true∧(∀ x,t = .str x→x.length≤1000)∧q (.vw (.bl (gj t)))
section
variable {P:Program} {w:World} {K:PySem.W.Frag} {mg:Str→Option Value} {base:Heap}
abbrev qU:List Str:=["thing"]
theorem iw:aE qU ["thing"] (ak d6):=⟨rfl,rfl,rfl,by decide +kernel,rfl,by decide +kernel,by decide +kernel⟩
theorem iL {f:Addr} {fd:FuncData} (D:Df K mg "is_operand" d6 ["thing"] f fd) (c1:bX P w K mg base "is_name" ["thing"] 1 (bR K 1 gu)) (c2:bX P w K mg base "is_number" ["thing"] 1 (bR K 1 Na)):bX P w K mg base "is_operand" ["thing"] 2 (bR K 1 Bq):=by
 obtain ⟨kf,iM,dC,dD,dF,dG⟩:=c1
 obtain ⟨Gh,EA,tE,tG,tI,tJ⟩:=c2
 refine D.gA (gN D.F iw rfl fun bZ A outer s H E Ox hr ts q hG=>?_)
 have nd:=iw.nd
 refine ⟨_,(af (aw (VP.vx (AH (aD dG (hr.mono (by decide)) (by rfl) dC dD dF (ab (ai 0) ah)) (iG (aD tJ (hr.mono (by decide)) (by rfl) tE tG tI (ab (ai 0) ah))))))),fun _=>?_⟩
 obtain ⟨t,rfl,ht,hx,hq⟩:=hG
 unfold gj at hq
 refine ⟨rfl,t,rfl,ht,hx,fK (c:=dS t) (fun h=>?_) (fun h=>⟨rfl,t,rfl,ht,?_⟩)⟩
 · rw [h,Bool.true_or] at hq; exact hq
 · rw [h,Lh] at hq; exact hq
end
end cD
namespace VT
open PySem PySem.Spec PyProof.Rows L2
section
variable {X:Cx} {Z:Zc} {a b:Expr} {fa fb:FE} {pos:Pos}
end
end VT
namespace RV
open PySem PySem.Spec PyProof.Rows
def tK (h:Heap) (it l:Addr) (i:Int):Prop:=∃ o,h.get? it=some o∧o.cls = .type "list_reverseiterator"∧o.data = .fields #[.ref l,.int i 0]
section
variable {prog:Program} {w:World} {A:Around} {E:Value→Shared→Prop} {s:Shared}
theorem tK.typeIs {it l:Addr} {i:Int} (h:tK s.heap it l i):s.TypeIs (.ref it) "list_reverseiterator":=let ⟨o,ho,hc,_⟩:=h; ⟨o,ho,hc⟩
end
theorem tK.at {h h':Heap} {it l:Addr} {i:Int} (x:tK h it l i) (k:∀ o,h.get? it=some o→h'.get? it=some o):tK h' it l i:=let ⟨o,ho,r⟩:=x; ⟨o,k o ho,r⟩
section
variable {prog:Program} {w:World} {A:Around} {s:Shared} {R:Result→Shared→Prop}
variable {I:Addr} {fp wr:List Addr} {G:Array GenState→Array GenState→Prop} {n:Nat} {P:Nat→Value→Prop} {St:Nat→Shared→Prop}
def Ends (prog:Program) (w:World) (A:Around) (I:Addr) (wr:List Addr) (G:Array GenState→Array GenState→Prop) (n:Nat) (St:Nat→Shared→Prop):Prop :=
 ∀ (s:Shared) (Q:Option Value→Shared→Prop) (E:Value→Shared→Prop),St n s→(∀ s',Moved wr G s s'→(∃ o,s'.heap.get? I=some o)→Q none s')→wpAny (model prog w) A (pyNext (.ref I)) Q E s
end
section
variable {prog:Program} {w:World} {A:Around} {E:Value→Shared→Prop} {s:Shared}
variable {I:Addr} {fp wr:List Addr} {G:Array GenState→Array GenState→Prop} {n:Nat} {P:Nat→Value→Prop} {St:Nat→Shared→Prop}
end
section
variable {prog:Program} {w:World} {A:Around} {E:Value→Shared→Prop} {s:Shared}
end
end RV
namespace VT
open PySem PySem.Spec PyProof.Rows L2
section
variable {X:Cx}
end
section
variable {X:Cx} {Z:Zc} {a:Expr} {fa:FE} {p1 p2 Ek yA:Pos}
end
theorem Gi {n:Nat} (h:n+101 < cLine):n+1 < cLine:=by omega
section
variable {X:Cx} {Z:Zc} {ek ev:Expr} {fk fv:FE} {pos:Pos}
end
section
variable {X:Cx}
end
section
variable {K:PySem.W.Frag} {H:Hp} {A:List Addr}
theorem pO:∀ {ys:List Str} {vs:List V},au K H A (ys.map T.str) vs→vs=ys.map V.str
 | [],vs,h=>by simpa only [FH,au] using h
 | y :: ys,vs,h=>by
   simp only [fu,au] at h
   obtain ⟨v,r,rfl,h1,h2⟩:=h
   simp only [At] at h1
   rw [h1,pO h2]
   rfl
end
section
variable {X:Cx}
theorem yI (hu:X.A.units+101 < cLine):eC X (compareOp .In) (fun x y H Q=>∃ (p q:Addr) (xs:List V) (ys:List Str),x = .ref p∧y = .ref q∧dq X.K H p xs∧dq X.K H q (ys.map V.str)∧Q (.bl false) H):=by
 intro pins s σ H x y v u Q I rx ry h
 obtain ⟨p,q,xs,ys,rfl,rfl,h1,h2,hq⟩:=h
 cases rx
 cases ry
 obtain ⟨aJ,r,pl,hz⟩:=I.tuple h1
 obtain ⟨c7,r2,Xb,YA⟩:=I.tuple h2
 have oj:∀ w∈c7.toArray,SeqAt.EqAt X.A.in1 s w (.ref p) false:=by
  intro w hw
  have Xc:w∈c7:=by simpa using hw
  obtain ⟨i,hi⟩:=PX.mp Xc
  have hl:=r2.length
  rw [bU] at hl
  have Xd:i < ys.length:=by have:=(h9.mp hi).1; omega
  obtain ⟨u,cA,ru⟩:=r2.get (show (ys.map V.str)[i]?=some (.str ys[i]) by rw [oa,n9 Xd]; rfl)
  rw [hi] at cA
  cases cA
  obtain ⟨t,rfl⟩:=ru
  exact SeqAt.EqAt.str_tuple _ _ pl (by rw [in1_units]; omega)
 refine SeqAt.in_tupleAt (fun _=>false) Xb oj ⟨.bl false,H,I,?_,hq⟩
 show Value.bool _=Value.bool false
 congr 1
 exact Array.any_eq_false.mpr (by simp)
def IW (x y:T) (q:Rt→Prop):Prop:=match x,y with
 | .tup _,.tup us=>∃ ys:List Str,us=ys.map .str∧q (.vw (.bl false))
 | _,_=>False
theorem EB {K:PySem.W.Frag}:oB K (fun x y H Q=>∃ (p q:Addr) (xs:List V) (ys:List Str),x = .ref p∧y = .ref q∧dq K H p xs∧dq K H q (ys.map V.str)∧Q (.bl false) H) IW:=by
 intro Z tm O ρ σ H x y v w q Q I h1 h2 h k
 unfold IW at h
 split at h
 · obtain ⟨ys,rfl,h⟩:=h
   obtain ⟨a,vs,rfl,s1,_⟩:=h1.tup
   obtain ⟨b,ws,rfl,s2,a2⟩:=h2.tup
   have e:ws=ys.map V.str:=pO a2
   rw [e] at s2
   exact ⟨a,b,vs,ys,rfl,rfl,s1,s2,k _ h _ H (aK.refl H) ⟨I,dr⟩⟩
 · exact h.elim
def IX (x y:T) (q:Rt→Prop):Prop:=match x with
 | .tup _=>IW x y q
 | _=>MC x y q
def Nb (K:PySem.W.Frag):R2:=fun x y H Q=>Iq K false x y H Q∨∃ (p q:Addr) (xs:List V) (ys:List Str),x = .ref p∧y = .ref q∧dq K H p xs∧dq K H q (ys.map V.str)∧Q (.bl false) H
theorem IY (hu:X.A.units+101 < cLine):eC X (compareOp .In) (Nb X.K):=by
 intro pins s σ H x y v u Q I rx ry h
 rcases h with h | h
 · exact vj pins s σ H x y v u Q I rx ry h
 · exact yI hu pins s σ H x y v u Q I rx ry h
theorem EC {K:PySem.W.Frag}:oB K (Nb K) IX:=by
 intro Z tm O ρ σ H x y v w q Q I h1 h2 h k
 unfold IX at h
 split at h
 · exact Or.inr (EB Z tm O ρ σ H _ y v w q Q I h1 h2 h k)
 · exact Or.inl (vk Z tm O ρ σ H x y v w q Q I h1 h2 h k)
end
section
variable {X:Cx} {Z:Zc} {a b e:Expr} {fa fb:FE} {pos:Pos}
theorem IZ (hu:X.A.units+101 < cLine) (ha:VR X Z a fa) (hb:VR X Z b fb) (hm:behindInMarks .In b=false:=by rfl):VP X Z (.Compare a [.In] [b] pos) (f2 fa fb IX):=qq (IY hu) EC ha hb hm
end
abbrev Xe:=En→(List (Key×T)→Prop)→Prop
section
variable {X:Cx} {Z:Zc} {ek ev:Expr} {fk fv:FE} {pos:Pos} {keys:List (Option Expr)} {values:List Expr} {f:Xe}
variable {e:Expr} {apos a_:Pos}
end
section
variable {X:Cx} {Z:Zc} {a b o e i:Expr} {fa fb fe fo fi:FE} {pos apos a_:Pos}
def Nc (k:Nat) (f:FP):FX:=fun ρ Q=>match ρ[k]? with
 | some (some (.lst ts,true))=>f ρ fun r=>match r with
   | .fr (.lst us)=>ts.length+us.length≤sizeLine∧Q (ρ.set k (some (.lst (ts ++ us),true))) (.vw .bp)
   | _=>False
 | _=>False
theorem ED (k:Nat) {x:Str} {p:Pos} {f:FP} (he:VP X Z e f)
  (hN:X.N[k]?=some x:=by rfl) (hv:uJ X.env.scope x:=by first | exact Or.inl rfl | exact Or.inr (Or.inl rfl) | exact Or.inr (Or.inr rfl)) (hd:(x == ("__debug__" : Str))=false:=by decide)
  (iq:(x == ("__classdict__" : Str))=false:=by decide) (dO:attributeBase (.Name x p) "extend" X.env (eval (.Name x p) X.env)=eval (.Name x p) X.env:=by rfl)
  (jX:((backTo a_ (starEach [e] X.env)).all (fun x=>!x.1) && (backToKw a_ (keywordEach [] X.env)).all (fun x=>x.1.isSome)
    && decide (([e]:List Expr).length+([]:List Keyword).length+(if ([]:List Keyword).isEmpty then 0 else 1) < 30))=true:=by rfl)
  (dP:(apos.endLine == a_.line)=true:=by rfl) (hs:starEach [e] X.env=(false,eval e X.env) :: starEach [] X.env:=by rfl) (dw:(backTo a_ (starEach [] X.env)).any (·.1)=false:=by rfl) :
  VX X Z (.Call (.Attribute (.Name x p) "extend" apos) [e] [] a_) (Nc k f):=.mk fun tm =>
 PE.weak (pC QP PySem.F.slot_list_extend PySem.F.type_list_extend yg (eA hN hv hd iq) (bY (he tm) dW hs) dO jX dP hs dw) fun σ H Q ⟨ρ,O,q,I,hf,kk⟩=>by
  unfold Nc at hf
  split at hf
  · rename_i ts e0
    obtain ⟨l,h1,h2,xs,h3,h4⟩:=I.root e0
    have ha:l∈av Z O:=iU _ (aH.mpr (jO h1))
    refine ⟨.ref l,h2,.inl ⟨rfl,xs,eB.of h3⟩,ρ,O,_,I,hf,fun r hr v H1 s1 z=>?_⟩
    split at hr
    · obtain ⟨hz,hq⟩:=hr
      have J:=z.env
      obtain ⟨b,rfl,I2,⟨zs,hb,aL⟩,_,_⟩:=z
      have Xf:=aL.bh fB
      refine ⟨l,b,xs,zs,rfl,rfl,s1 _ _ h3,hb,by rw [h4.length,aL.length]; exact hz,kk _ _ hq O _ _ ⟨J.wrote e0 h1 ⟨xs ++ zs,aX,?_⟩,iF⟩⟩
      exact ((h4.same s1).append Xf).wrote ha (s1 _ _ h3) rfl
    · exact hr.elim
  · exact hf.elim
end
def andM (r:Rt) (A B:Prop):Prop:=match r with
 | .vw (.bl true)=>A
 | .vw (.bl false)=>B
 | _=>False
theorem xC {c:Bool} {A B:Prop} (h1:c=true→A) (h2:c=false→B):andM (.vw (.bl c)) A B:=by
 cases c with
 | true=>exact h1 rfl
 | false=>exact h2 rfl
section
variable {X:Cx} {Z:Zc} {k n:Nat} {x:Str} {p pos:Pos} {e:Expr} {es:List Expr} {g:FA}
abbrev GV:=List T→(Rt→Prop)→Prop
def Br (i n:Nat) (g:FA) (Fn:Addr→GV→Prop):FP:=fun ρ Q=>match ρ[i]? with
 | some (some (.ob f,false))=>∃ G,Fn f G∧g ρ fun ts=>ts.length=n∧G ts Q
 | _=>False
theorem Bs (i:Nat) {Fn:Addr→GV→Prop} (C:∀ f G,Fn f G→PySem.W.keepIn X.K (.ref f)=true∧∃ fd ps,Binds X.K fd ps []∧dX X.prog X.w X.K X.mg X.base jN k f fd ps (bR X.K n G)) (hr:bP k X.A) (ha:VA X Z (e :: es) g)
  (hN:X.N[i]?=some x:=by rfl) (hv:uJ X.env.scope x:=by first | exact Or.inl rfl | exact Or.inr (Or.inl rfl) | exact Or.inr (Or.inr rfl)) (hd:(x == ("__debug__" : Str))=false:=by decide)
  (iq:(x == ("__classdict__" : Str))=false:=by decide) (he:starEach (e :: es) X.env=(false,eval e X.env) :: starEach es X.env:=by rfl) (jU:(backTo pos (starEach es X.env)).any (·.1)=false:=by rfl) :
  VP X Z (.Call (.Name x p) (e :: es) [] pos) (Br i n g Fn):=.mk fun tm pins s σ H Q I ⟨ρ,O,q,E,hf,kk⟩=>by
 unfold Br at hf
 split at hf
 · rename_i f e0
   obtain ⟨G,Xg,hf⟩:=hf
   obtain ⟨o,sv,h1,h2,rfl,v,rfl,h3⟩:=E.sl i _ e0
   simp only [At] at h3
   subst h3
   obtain ⟨hk,fd,ps,hb,F⟩:=C f G Xg
   refine wpAny_Call_Name_kw (cf (eA hN hv hd iq pins s σ H (fun v H'=>v = .ref f∧H'=H) I ⟨_,h2,rfl,rfl⟩) fun u s1 ⟨v,H1,I1,r,ev,eH⟩=>?_)
   subst ev eH
   obtain rfl:u=Value.ref f:=r
   refine PySem.W.callWith_K (h₀:=X.base) I1.ok.mod.P7 hk (cf (ha tm pos pins s1 σ H1 (fun vs H2=>bR X.K n G (vs ++ []) H2 Q E0) I1 ⟨ρ,O,_,E,hf,fun ts fW vs H2 s2 a2=>xt (E.same s2) a2 fW.1 fW.2 fun r hr v H' s z=>kk r hr v H' (s2.trans s) z⟩) fun us s2 ⟨vs,H2,I2,r2,q2⟩=>⟨I2.uR,?_⟩) he jU
   exact Ap F hr hb .nil xg I2 r2 q2
 · exact hf.elim
end
end VT
namespace cD
open PySem L2 VT Gen xi
abbrev cw:Stmt:=top 18
abbrev cx:Stmt:=top 19
abbrev cF:Stmt:=top 20
structure I8 (w:World) (K:PySem.W.Frag) (mg:Str→Option Value):Prop where
 m2:Qx mg
 vI:∃ t,mg "MOST_PARTS" = some (.int 4 t)
 vJ:∃ a,mg "RECKONINGS" = some (.ref a)∧∀ H,dq K H a [.str "plus",.str "minus",.str "times",.str "over",.str "rest",.str "less",.str "same"]
 isinstance:mg "isinstance" = none
 int:mg "int" = none
 bool:mg "bool" = none
 str:mg "str" = none
 len:mg "len" = none
 all:mg "all" = none
 tuple:mg "tuple" = none
 set:mg "set" = none
 zip:mg "zip" = none
def EE:T→Bool
 | .str x=>qp x
 | _=>false
def I9 (t:T):Bool:=EE t || gj t
def Nd:List T:=[.str "plus",.str "minus",.str "times",.str "over",.str "rest",.str "less",.str "same"]
def I_:T→Bool
 | .tup _=>false
 | t=>zU t Nd
def Ja:T→Bool
 | .tup l=>decide (l.length≤4) && l.all gj
 | _=>false
def strsOf (l:List T):List Str:=l.filterMap fun t=>match t with
 | .str x=>some x
 | _=>none
def Jb:T→Bool
 | .tup l=>(decide (l.length≤4) && l.all gj) && (l.all dS && decide ((once (strsOf l)).length=l.length))
 | _=>false
def oS (t:T):Prop:=(∃ x,t = .str x∧x.length≤100)∨∃ i,t = .int i
def Part (t:T):Prop:=oS t∨∃ l,t = .tup l∧l.length≤10∧∀ u∈l,oS u
theorem oS.flat {t:T} (h:oS t):jk t=true:=by rcases h with ⟨x,rfl,_⟩ | ⟨i,rfl⟩ <;> rfl
theorem oS.short {t:T} (h:oS t):∀ x,t = .str x→x.length≤1000:=by
 rintro x rfl
 rcases h with ⟨y,e,hy⟩ | ⟨i,e⟩
 · cases e; omega
 · cases e
theorem Part.flat {t:T} (h:Part t):jk t=true:=by rcases h with h | ⟨l,rfl,_⟩; exact h.flat; rfl
theorem Part.short {t:T} (h:Part t):∀ x,t = .str x→x.length≤1000:=by
 rcases h with h | ⟨l,rfl,_⟩
 · exact h.short
 · intro x e; cases e
def gR (p:T→Bool) (ts:List T) (q:Rt→Prop):Prop:=∃ t,ts=[t]∧Part t∧q (.vw (.bl (p t)))
abbrev Jc:=gR EE
abbrev Bt:=gR I9
abbrev Jd:=gR I_
abbrev EF:=gR Ja
abbrev Je:=gR Jb
theorem nt {b:Bool} (h:(!b)=true):b=false:=by cases b <;> simp_all
theorem nf {b:Bool} (h:¬ (!b)=true):b=true:=by cases b <;> simp_all
theorem mW (p:T→Bool):∀ l:List T,bS (l.map fun t=>T.bl (p t))=some (l.map p)
 | []=>rfl
 | t :: l=>by
   rw [fu,fu]
   show (bS _).map _=_
   rw [mW p l]
   rfl
theorem mX {l:List T} (h:l.all dS=true):l=(strsOf l).map .str:=by
 induction l with
 | nil=>rfl
 | cons t l ih =>
   rw [r8,il] at h
   cases t with
   | str x =>
     show T.str x :: l=T.str x :: (strsOf l).map T.str
     rw [← ih h.2]
   | _=>cases h.1
section
variable {P:Program} {w:World} {K:PySem.W.Frag} {mg:Str→Option Value} {base:Heap}
abbrev vK:List Str:=["thing"]
theorem kN:aE vK ["thing"] (ak gi):=⟨rfl,rfl,rfl,by decide +kernel,rfl,by decide +kernel,by decide +kernel⟩
theorem tO {f:Addr} {fd:FuncData} (D:Df K mg "is_field" gi ["thing"] f fd) (M:I8 w K mg) (fL:bX P w K mg base "is_name" ["thing"] 1 (bR K 1 gu)):bX P w K mg base "is_field" ["thing"] 2 (bR K 1 Jc):=by
 obtain ⟨kf,iM,dC,dD,dF,dG⟩:=fL
 refine D.gA (gN D.F kN rfl fun bZ A outer s H E Ox hr ts q hG=>?_)
 have nd:=kN.nd
 refine ⟨_,(af (aw (VP.vx (iH (bF eG (by rfl) M.isinstance (by rfl) M.str mD (aa 0)) (iH (ka (aa 0) (VP.vr ar)) (iG (aD dG (hr.mono (by decide)) (by rfl) dC dD dF (ab (VP.ve (c_ (aa 0) (dJ (VP.vr ag)) eZ)) ah)))))))),fun _=>?_⟩
 obtain ⟨t,rfl,ht,hq⟩:=hG
 rcases ht with (⟨x,rfl,hx⟩ | ⟨i,rfl⟩) | ⟨l,rfl,_⟩
 · refine ⟨rfl,?_⟩
   have fj:q (.vw (.bl (Txt.startswith x "." && bq (Txt.slice x (some 1) none)))):=hq
   refine xC (c:=Txt.startswith x ".") (fun h=>?_) (fun h=>?_)
   · rw [h,uI] at fj
     refine ⟨cZ (by omega),rfl,_,rfl,rfl,fun y e=>?_,fj⟩
     cases e
     exact kF (KA x _ _) (by omega)
   · rw [h,z9] at fj
     exact fj
 · exact ⟨rfl,hq⟩
 · exact ⟨rfl,hq⟩
abbrev Bu:List Str:=["thing"]
theorem pP:aE Bu ["thing"] (ak jj):=⟨rfl,rfl,rfl,by decide +kernel,rfl,by decide +kernel,by decide +kernel⟩
theorem yJ {f:Addr} {fd:FuncData} (D:Df K mg "is_key" jj ["thing"] f fd) (M:I8 w K mg) (vL:bX P w K mg base "is_field" ["thing"] 2 (bR K 1 Jc)) (de:bX P w K mg base "is_operand" ["thing"] 2 (bR K 1 Bq)):bX P w K mg base "is_key" ["thing"] 3 (bR K 1 Bt):=by
 obtain ⟨Jf,Gj,vM,vN,vO,vP⟩:=vL
 obtain ⟨jm,ix,dg,dh,di,dj⟩:=de
 refine D.gA (gN D.F pP rfl fun bZ A outer s H E Ox hr ts q hG=>?_)
 have nd:=pP.nd
 refine ⟨_,(af (aw (VP.vx (AH (aD vP (hr.mono (by decide)) (by rfl) vM vN vO (ab (ai 0) ah)) (iG (aD dj (hr.mono (by decide)) (by rfl) dg dh di (ab (ai 0) ah))))))),fun _=>?_⟩
 obtain ⟨t,rfl,ht,hq⟩:=hG
 have fj:q (.vw (.bl (EE t || gj t))):=hq
 refine ⟨rfl,t,rfl,ht,xC (c:=EE t) (fun h=>?_) (fun h=>⟨rfl,t,rfl,ht.flat,ht.short,?_⟩)⟩
 · rw [h,Bool.true_or] at fj; exact fj
 · rw [h,Lh] at fj; exact fj
abbrev gS:List Str:=["thing"]
theorem gw:aE gS ["thing"] (ak cw):=⟨rfl,rfl,rfl,by decide +kernel,rfl,by decide +kernel,by decide +kernel⟩
theorem k6 {f:Addr} {fd:FuncData} (D:Df K mg "is_reckoning" cw ["thing"] f fd) (M:I8 w K mg):bX P w K mg base "is_reckoning" ["thing"] 1 (bR K 1 Jd):=by
 refine D.gA (gN D.F gw rfl fun bZ A outer s H E Ox hr ts q hG=>?_)
 have nd:=gw.nd
 have hu:=bP.gg hr
 obtain ⟨aR,mR,hR⟩:=M.vJ
 have qV:∀ {pos},VP (ib jN P w K mg base gS "is_reckoning" (ak cw) f bZ A outer s H E).r0 ⟨H,[],Ox⟩ (.Name "RECKONINGS" pos) (fC (.tup Nd)):=dI (by rfl) mR (v:=.ref aR) rfl fun H A=>bt (hR H) (au.cons bE (au.cons bE (au.cons bE (au.cons bE (au.cons bE (au.cons bE (au.cons bE au.nil)))))))
 refine ⟨_,(af (aw (VP.vx (IZ hu (aa 0) (VP.vr qV))))),fun _=>?_⟩
 obtain ⟨t,rfl,ht,hq⟩:=hG
 rcases ht with (⟨x,rfl,hx⟩ | ⟨i,rfl⟩) | ⟨l,rfl,_⟩
 · exact ⟨rfl,rfl,hq⟩
 · exact ⟨rfl,rfl,hq⟩
 · exact ⟨["plus","minus","times","over","rest","less","same"],rfl,hq⟩
abbrev eM:List Str:=["thing"]
theorem gx:aE eM ["thing"] (ak cx):=⟨rfl,rfl,rfl,by decide +kernel,rfl,by decide +kernel,by decide +kernel⟩
theorem iN:(eM ++ (["part"]:List Str)).Nodup:=by decide +kernel
theorem k7 {f:Addr} {fd:FuncData} (D:Df K mg "are_operands" cx ["thing"] f fd) (M:I8 w K mg) (de:bX P w K mg base "is_operand" ["thing"] 2 (bR K 1 Bq)):bX P w K mg base "are_operands" ["thing"] 3 (bR K 1 EF):=by
 obtain ⟨jm,ix,dg,dh,di,dj⟩:=de
 refine D.gA (gN D.F gx rfl fun bZ A outer s H E Ox hr ts q hG=>?_)
 have nd:=gx.nd
 have np:∀ {i:Nat},aT ⟨H,[],Ox⟩ i:=kK
 obtain ⟨tP,mP⟩:=M.vI
 have qW:∀ {pos},VP (ib jN P w K mg base eM "are_operands" (ak cx) f bZ A outer s H E).r0 ⟨H,[],Ox⟩ (.Name "MOST_PARTS" pos) (fC (.int 4)):=dI (by rfl) mP (v:=.int 4) ⟨_,rfl⟩ fun _ _=>bD
 refine ⟨_,(ae (aQ (VW.vc (fE (cu (bV (bF dA (by rfl) M.isinstance (by rfl) M.tuple dc (aa 0)))) (eD (sI (VP.vr (ax az aB (by rfl) M.len h_ (aj (aa 0) ao))) (VP.vr qW)))))
    (af (aw (VP.vx fD)))
    ay)
   (af (aw (VP.vx (ax (bM rfl) dB (by rfl) M.all mB (aj (VP.vr (dM (ts:=["part"]) rfl (by rfl) (da (ai 0)) (fun _ _ _ _ _ _=>(aI (i:=1) iN rfl (Or.inl rfl) np)) (fun _ _ _ _ _ _=>cC) (fun _ _ _ _ _ _=>(VP.ve (aD dj (hr.mono (by decide)) (by rfl) dg dh di (ab (ai 1) ah)))))) ao)))))),fun _=>?_⟩
 obtain ⟨t,rfl,ht,hq⟩:=hG
 rcases ht with (⟨x,rfl,hx⟩ | ⟨i,rfl⟩) | ⟨l,rfl,hl,hL⟩
 · exact ⟨rfl,hq⟩
 · exact ⟨rfl,hq⟩
 · have fj:q (.vw (.bl (decide (l.length≤4) && l.all gj))):=hq
   refine ⟨rfl,?_⟩
   refine cg (fun h=>?_) (fun h=>?_)
   · have h':(4:Int) < (l.length:Int):=h
     rw [decide_eq_false (by omega),z9] at fj
     exact fj
   · have h':¬ (4:Int) < (l.length:Int):=h
     rw [decide_eq_true (by omega),uI] at fj
     refine ⟨rfl,cZ (by omega),fG (fun _=>true) (fun t=>T.bl (gj t)) (fun t ht k r h=>⟨rfl,t,rfl,(hL t ht).flat,(hL t ht).short,h⟩) ?_⟩
     rw [PM.mpr (fun _ _=>rfl)]
     refine ⟨l.map gj,mW gj l,?_⟩
     rw [KC]
     exact fj
abbrev fM:List Str:=["thing"]
theorem e5:aE fM ["thing"] (ak cF):=⟨rfl,rfl,rfl,by decide +kernel,rfl,by decide +kernel,by decide +kernel⟩
theorem gU:(fM ++ (["part"]:List Str)).Nodup:=by decide +kernel
theorem jn {f:Addr} {fd:FuncData} (D:Df K mg "are_parameters" cF ["thing"] f fd) (M:I8 w K mg) (eO:bX P w K mg base "are_operands" ["thing"] 3 (bR K 1 EF)) (fL:bX P w K mg base "is_name" ["thing"] 1 (bR K 1 gu)):bX P w K mg base "are_parameters" ["thing"] 4 (bR K 1 Je):=by
 obtain ⟨mY,k8,eQ,eR,eS,eU⟩:=eO
 obtain ⟨kf,iM,dC,dD,dF,dG⟩:=fL
 refine D.gA (gN D.F e5 rfl fun bZ A outer s H E Ox hr ts q hG=>?_)
 have nd:=e5.nd
 have hu:=bP.gg hr
 have np:∀ {i:Nat},aT ⟨H,[],Ox⟩ i:=kK
 refine ⟨_,(ae (aQ (VW.vc (fE (cu (bV (aD eU (hr.mono (by decide)) (by rfl) eQ eR eS (ab (ai 0) ah)))) (eD (cu (bV (ax (bM rfl) dB (by rfl) M.all mB (aj (VP.vr (dM (ts:=["part"]) rfl (by rfl) (da (ai 0)) (fun _ _ _ _ _ _=>(aI (i:=1) gU rfl (Or.inl rfl) np)) (fun _ _ _ _ _ _=>cC) (fun _ _ _ _ _ _=>(VP.ve (aD dG (hr.mono (by decide)) (by rfl) dC dD dF (ab (ai 1) ah)))))) ao)))))))
    (af (aw (VP.vx fD)))
    ay)
   (af (aw (VP.vx (i5 hu (VP.vr (yB rfl (by rfl) M.len (by rfl) M.set (aa 0))) (VP.vr (ax az aB (by rfl) M.len h_ (aj (aa 0) ao)))))))),fun _=>?_⟩
 obtain ⟨t,rfl,ht,hq⟩:=hG
 refine ⟨rfl,t,rfl,ht,?_⟩
 rcases ht with (⟨x,rfl,hx⟩ | ⟨i,rfl⟩) | ⟨l,rfl,hl,hL⟩
 · exact hq
 · exact hq
 · have fj:q (.vw (.bl ((decide (l.length≤4) && l.all gj) && (l.all dS && decide ((once (strsOf l)).length=l.length))))):=hq
   refine sr (fun h=>?_) (fun h=>?_)
   · have h':(!(decide (l.length≤4) && l.all gj))=true:=h
     have h2:(decide (l.length≤4) && l.all gj)=false:=nt h'
     rw [h2,z9] at fj
     exact fj
   · have h':¬ (!(decide (l.length≤4) && l.all gj))=true:=h
     have h2:(decide (l.length≤4) && l.all gj)=true:=nf h'
     rw [h2,uI] at fj
     refine ⟨rfl,cZ (by omega),fG (fun _=>true) (fun t=>T.bl (dS t)) (fun t ht k r h=>⟨rfl,t,rfl,(hL t ht).flat,(hL t ht).short,h⟩) ?_⟩
     rw [PM.mpr (fun _ _=>rfl)]
     refine ⟨l.map dS,mW dS l,?_⟩
     rw [KC]
     refine sr (fun h3=>?_) (fun h3=>?_)
     · have Jg:(!(l.all dS))=true:=h3
       have h4:l.all dS=false:=nt Jg
       rw [h4,z9] at fj
       exact fj
     · have Jg:¬ (!(l.all dS))=true:=h3
       have h4:l.all dS=true:=nf Jg
       rw [h4,uI] at fj
       refine ⟨strsOf l,.inr (by rw [← mX h4]),?_,?_⟩
       · have:=congrArg List.length (mX h4)
         rw [bU] at this
         omega
       · have e:decide (((once (strsOf l)).length:Int)=(l.length:Int))=decide ((once (strsOf l)).length=l.length):=decide_eq_decide.mpr (by omega)
         show q (.vw (.bl (decide (((once (strsOf l)).length:Int)=(l.length:Int)))))
         rw [e]
         exact fj
end
abbrev jo:Stmt:=top 22
inductive So where
 | nm | op | key | rk | par | ops
def fnName:So→Str
 | .nm=>"is_name"
 | .op=>"is_operand"
 | .key=>"is_key"
 | .rk=>"is_reckoning"
 | .par=>"are_parameters"
 | .ops=>"are_operands"
def ij:So→T→Bool
 | .nm=>dS
 | .op=>gj
 | .key=>I9
 | .rk=>I_
 | .par=>Jb
 | .ops=>Ja
def Ta:So→List T→(Rt→Prop)→Prop
 | .nm=>gu
 | .op=>Bq
 | .key=>Bt
 | .rk=>Jd
 | .par=>Je
 | .ops=>EF
theorem Bv {s:So} {t:T} {q:Rt→Prop} (h:Part t) (hq:q (.vw (.bl (ij s t)))):Ta s [t] q:=by
 cases s with
 | nm=>exact ⟨t,rfl,h.flat,h.short,hq⟩
 | op=>exact ⟨t,rfl,h.flat,h.short,hq⟩
 | _=>exact ⟨t,rfl,h,hq⟩
def kO:List (Str×List So):=[("def",[.nm,.par]),("give",[.op]),("put",[.nm,.op]),("do",[.nm,.op,.rk,.op]),("new",[.nm]),("get",[.nm,.nm,.key]),("set",[.nm,.key,.op]),("call",[.nm,.nm,.ops]),("fail",[.nm]),("if",[.op]),("else",[]),("while",[.op]),("end",[]),("skip",[])]
def jq:List (Str×List So)→Str→Option (List So)
 | [],_=>none
 | (k,ss) :: l,x=>if k=x then some ss else jq l x
def mZ (x:Str) (ps:List T):Bool:=match jq kO x with
 | none=>false
 | some ss=>decide (ps.length=ss.length) && (List.zipWith ij ss ps).all id
theorem pQ (fo:So→Addr) (x:Str):∀ l:List (Str×List So),Et (l.map fun p=>(p.1,T.tup (p.2.map fun s=>T.ob (fo s)))) x=(jq l x).map fun ss=>T.tup (ss.map fun s=>T.ob (fo s))
 | []=>rfl
 | (k,ss) :: l=>by
   have ih:=pQ fo x l
   unfold Et at ih ⊢
   simp only [fu,ff,jq]
   by_cases h:k=x
   · rw [if_pos h,if_pos (by rw [h])]; rfl
   · rw [if_neg h,if_neg (fun z=>h (Sum.inr.inj z))]; exact ih
theorem yK:∀ x ss,jq kO x=some ss→ss.length≤4:=by
 intro x ss
 have:∀ l:List (Str×List So),(∀ p∈l,p.2.length≤4)→jq l x=some ss→ss.length≤4:=by
  intro l
  induction l with
  | nil=>intro _ h; cases h
  | cons p l ih =>
    intro hl h
    obtain ⟨k,s0⟩:=p
    simp only [jq] at h
    split at h
    · cases h; exact hl _ eW
    · exact ih (fun p hp=>hl p (g9 _ hp)) h
 exact this kO (by simp [kO])
theorem pR {α:Type} {h:FG} {fe:FE} {ρ:En} {fA:α→T} {b:α→T→Bool}:∀ {ss:List α} {ps:List T} {Q:List T→Prop},(∀ s∈ss,∀ p∈ps,∀ r:T→Prop,r (.bl (b s p))→h (.tup [fA s,p]) ρ fun ρ2=>fe ρ2 r)→Q ((List.zipWith b ss ps).map .bl)→cP h AV fe ρ (gB (ss.map fA) ps) Q
 | [],ps,Q,_,hq=>by simpa [gB,cP] using hq
 | s :: ss,[],Q,_,hq=>by simpa [gB,cP] using hq
 | s :: ss,p :: ps,Q,step,hq=>by
   show cP h AV fe ρ (T.tup [fA s,p] :: gB (ss.map fA) ps) Q
   simp only [cP]
   refine step s eW p eW _ ?_
   exact pR (fun s hs p hp=>step s (g9 _ hs) p (g9 _ hp)) hq
theorem tQ:∀ l:List Bool,bS (l.map T.bl)=some l
 | []=>rfl
 | b :: l=>by
   rw [fu]
   show (bS _).map _=_
   rw [tQ l]
   rfl
structure Vx (w:World) (K:PySem.W.Frag) (mg:Str→Option Value):Prop extends I8 w K mg where
 Nf:∃ (a:Addr) (fo:So→Addr),mg "FORMS" = some (.ref a)∧(∀ s,mg (fnName s)=some (.ref (fo s)))∧tq w K a (kO.map fun p=>(p.1,T.tup (p.2.map fun s=>T.ob (fo s))))
def Jh (ts:List T) (q:Rt→Prop):Prop:=∃ (x:Str) (ps:List T),ts=[.tup (.str x :: ps)]∧ps.length≤10∧(∀ p∈ps,Part p)∧q (.vw (.bl (mZ x ps)))
theorem Tb (t:T) (ps:List T):gc (t :: ps) (some 1) none=ps:=by
 unfold gc
 have e:HT.cX (t :: ps).length 0 (some 1)=1:=by
  have:=HT.g_ (t :: ps).length 0 1
  rw [show ((1:Nat):Int)=1 from rfl] at this
  rw [this]
  simp
 rw [e,HT.l6]
 simp
section
variable {P:Program} {w:World} {K:PySem.W.Frag} {mg:Str→Option Value} {base:Heap}
abbrev tR:List Str:=["row","form"]
theorem pS:aE tR ["row"] (ak jo):=⟨rfl,rfl,rfl,by decide +kernel,rfl,by decide +kernel,by decide +kernel⟩
theorem jr:(tR ++ (["fits","part"]:List Str)).Nodup:=by decide +kernel
theorem yL {f:Addr} {fd:FuncData} (D:Df K mg "is_row" jo ["row"] f fd) (M:Vx w K mg) (fL:bX P w K mg base "is_name" ["thing"] 1 (bR K 1 gu)) (de:bX P w K mg base "is_operand" ["thing"] 2 (bR K 1 Bq)) (Bw:bX P w K mg base "is_key" ["thing"] 3 (bR K 1 Bt)) (m3:bX P w K mg base "is_reckoning" ["thing"] 1 (bR K 1 Jd)) (kg:bX P w K mg base "are_parameters" ["thing"] 4 (bR K 1 Je)) (eO:bX P w K mg base "are_operands" ["thing"] 3 (bR K 1 EF)):bX P w K mg base "is_row" ["row"] 5 (bR K 1 Jh):=by
 obtain ⟨kf,iM,dC,dD,dF,dG⟩:=fL
 obtain ⟨jm,ix,dg,dh,di,dj⟩:=de
 obtain ⟨Ng,KY,By,Bz,BA,BB⟩:=Bw
 obtain ⟨BC,zX,m4,m5,m6,m7⟩:=m3
 obtain ⟨yM,xD,kh,ki,kj,kl⟩:=kg
 obtain ⟨mY,k8,eQ,eR,eS,eU⟩:=eO
 refine D.gA (gN D.F pS rfl fun bZ A outer s H E Ox hr ts q hG=>?_)
 have nd:=pS.nd
 have hu:=bP.gg hr
 have np:∀ {i:Nat},aT ⟨H,[],Ox⟩ i:=kK
 obtain ⟨aF,fo,EG,HC,BD⟩:=M.Nf
 have Ji:∀ f' G,(∃ s:So,f'=fo s∧G=Ta s)→PySem.W.keepIn K (.ref f')=true∧∃ fd ps,Binds K fd ps []∧dX P w K mg base jN 4 f' fd ps (bR K 1 G):=by
  rintro f' G ⟨s,rfl,rfl⟩
  have h:=HC s
  cases s with
  | nm=>cases dC.symm.trans h; exact ⟨dD,_,_,dF,dG.mono (by decide)⟩
  | op=>cases dg.symm.trans h; exact ⟨dh,_,_,di,dj.mono (by decide)⟩
  | key=>cases By.symm.trans h; exact ⟨Bz,_,_,BA,BB.mono (by decide)⟩
  | rk=>cases m4.symm.trans h; exact ⟨m5,_,_,m6,m7.mono (by decide)⟩
  | par=>cases kh.symm.trans h; exact ⟨ki,_,_,kj,kl.mono (by decide)⟩
  | ops=>cases eQ.symm.trans h; exact ⟨eR,_,_,eS,eU.mono (by decide)⟩
 refine ⟨_,(ae (aQ (VW.vc (fE (cu (bV (bF dA (by rfl) M.isinstance (by rfl) M.tuple dc (aa 0)))) (fE (bQ hu (VP.vr (ax az aB (by rfl) M.len h_ (aj (aa 0) ao))) (VP.vr ag)) (eD (cu (bV (bF eG (by rfl) M.isinstance (by rfl) M.str mD (VP.vr (bo (aa 0) (VP.vr ag))))))))))
    (af (aw (VP.vx fD)))
    ay)
   (ae (aS (i:=1) nd rfl (Or.inl rfl) (VP.vx (tu (by rfl) EG BD (VP.vr (bo (aa 0) (VP.vr ag))) ⟨rfl,rfl,rfl,rfl⟩)) np)
   (ae (aQ (VW.vc (fE (A0 (aa 1) (VP.vr vb)) (eD (gK hu (VP.vr (ax az aB (by rfl) M.len h_ (aj (aa 0) ao))) (VP.vr (bN (VP.vr (ax az aB (by rfl) M.len h_ (aj (aa 1) ao))) (VP.vr ag)))))))
     (af (aw (VP.vx fD)))
     ay)
   (af (aw (VP.vx (ax (bM rfl) dB (by rfl) M.all mB (aj (VP.vr (dM (ts:=["fits","part"]) rfl (by rfl) (vA (by rfl) M.zip (ai 1) (VP.ve (c_ (aa 0) (dJ (VP.vr ag)) eZ))) (fun _ _ _ _ _ _=>(gd (n:=2) rfl (br (aI (i:=2) jr rfl (Or.inl rfl) np) (br (aI (i:=3) jr rfl (Or.inl rfl) np) d4)))) (fun _ _ _ _ _ _=>cC) (fun _ _ _ _ _ _=>(VP.ve (Bs 2 Ji (hr.mono (by decide)) (ab (ai 3) ah)))))) ao)))))))),fun _=>?_⟩
 obtain ⟨x,ps,rfl,hl,hP,hq⟩:=hG
 have Nh:=pQ fo x kO
 refine ⟨rfl,_,aG (j:=0) rfl,rfl,_,aG (j:=0) rfl,?_⟩
 show onStr (T.str x) _
 unfold onStr
 dsimp only
 rw [Nh]
 cases hf:jq kO x with
 | none =>
   have hg:mZ x ps=false:=by unfold mZ; rw [hf]
   rw [hg] at hq
   exact hq
 | some ss =>
   have hg:mZ x ps=(decide (ps.length=ss.length) && (List.zipWith ij ss ps).all id):=by unfold mZ; rw [hf]
   rw [hg] at hq
   have YB:=yK x ss hf
   have el:(((T.str x :: ps).length:Nat):Int)=(ps.length:Int)+1:=by rw [wO]; omega
   have Vy:(((ss.map fun s=>T.ob (fo s)).length:Nat):Int)=(ss.length:Int):=by rw [bU]
   refine sr (fun h=>?_) (fun h=>?_)
   · have h':(!decide (((T.str x :: ps).length:Int)=((ss.map fun s=>T.ob (fo s)).length:Int)+1))=true:=h
     have h2:=of_decide_eq_false (nt h')
     rw [el,Vy] at h2
     rw [decide_eq_false (by omega),z9] at hq
     exact hq
   · have h':¬ (!decide (((T.str x :: ps).length:Int)=((ss.map fun s=>T.ob (fo s)).length:Int)+1))=true:=h
     have h2:=of_decide_eq_true (nf h')
     rw [el,Vy] at h2
     rw [decide_eq_true (by omega),uI] at hq
     have Tc:¬ (HT.cX (T.str x :: ps).length 0 (some 1)=0∧HT.cX (T.str x :: ps).length (T.str x :: ps).length none=(T.str x :: ps).length):=by
      rintro ⟨z,_⟩
      have:=HT.g_ (T.str x :: ps).length 0 1
      rw [show ((1:Nat):Int)=1 from rfl,z] at this
      simp at this
     refine ⟨rfl,Tc,?_⟩
     rw [Tb]
     refine ⟨?_,pR (b:=ij) (fun s _ p hp r hr=>?_) ⟨_,tQ _,hq⟩⟩
     · show (gB (ss.map fun s=>T.ob (fo s)) ps).length≤sizeLine
       unfold gB
       rw [List.length_zipWith]
       exact cZ (by omega)
     · exact ⟨rfl,rfl,Ta s,⟨s,rfl,rfl⟩,rfl,Bv (q:=fun x=>r x.t) (hP p hp) hr⟩
end
end cD
namespace Gen
open PySem L2 VT
open xi (ba ym bq)
theorem xE (n:Int):ym (fH n)=true:=by
 have h0:0≤n % 26:=lT n (by decide)
 have h1:n % 26 < 26:=pd n (by decide)
 have h:∀ j < 26,ym (ba.cps.toList.getD j 0)=true:=by decide +kernel
 exact h _ (by omega)
theorem BE {a b:Int} (h:fH a=fH b):a % 26=b % 26:=by
 have a0:0≤a % 26:=lT a (by decide)
 have a1:a % 26 < 26:=pd a (by decide)
 have b0:0≤b % 26:=lT b (by decide)
 have b1:b % 26 < 26:=pd b (by decide)
 have k:∀ i < 26,∀ j < 26,ba.cps.toList.getD i 0=ba.cps.toList.getD j 0→i=j:=by decide +kernel
 have:=k (a % 26).toNat (by omega) (b % 26).toNat (by omega) h
 omega
theorem yN {c:Int} {k k' n:Nat} (hn:yE c < n) (hk:k < 26) (MU:k' < 26) (h:bT c k n=bT c k' n):k=k':=by
 have h2:((List.range n).map fun j=>fH (qP c k j))=((List.range n).map fun j=>fH (qP c k' j)):=by
  have:=congrArg (fun y:Str=>y.cps.toList) h
  exact this
 have h3:=congrArg (fun l:List Nat=>l[yE c]?) h2
 simp only [oa,List.getElem?_range hn,Option.map_some,Option.some.injEq] at h3
 have h4:=BE h3
 unfold qP at h4
 rw [if_pos rfl,if_pos rfl] at h4
 omega
theorem m8 {c:Int} {k n:Nat} (h1:1≤n) (h8:n≤8):bq (bT c k n)=true:=by
 unfold bq
 rw [ei,decide_eq_true (by omega),decide_eq_true (by omega),uI,uI]
 show ((List.range n).map fun j=>fH (qP c k j)).all ym=true
 rw [KC]
 exact uN.mpr fun j _=>xE _
theorem BF {x:Str} {n:Int} (h:bq x=true) (hl:x.length≤7):bq (x ++ ⟨#[fH n]⟩)=true:=by
 have hx:=xi.d0 h
 have el:(x ++ (⟨#[fH n]⟩:Str)).length=x.length+1:=by
  show (x.cps ++ #[fH n]).size=_
  simp [Str.length]
 unfold bq
 rw [el,decide_eq_true (by omega),decide_eq_true (by omega),uI,uI]
 show (x.cps ++ #[fH n]).toList.all ym=true
 simp only [Array.toList_append,List.all_append,hx,uI]
 simp [xE]
theorem lM (x:Str) (n:Int):(x ++ (⟨#[fH n]⟩:Str)).length=x.length+1:=by
 show (x.cps ++ #[fH n]).size=_
 simp [Str.length]
theorem yO {c:Int} {m:Nat} {y:Str} (h:y∈cL c m):(∃ k < m,y=bT c k (ig c))∨y=bT c 0 (ig c) ++ ⟨#[fH (oQ c / 147)]⟩:=by
 have hz:∀ {y},y∈((List.range m).map fun k=>bT c k (ig c))→∃ k < m,y=bT c k (ig c):=fun h=>by
  obtain ⟨k,hk,rfl⟩:=iV.mp h
  exact ⟨k,FD.mp hk,rfl⟩
 unfold cL at h
 split at h
 · rcases K_ h with h | h
   · exact .inl (hz h)
   · exact .inr h
 · exact .inl (hz h)
theorem vQ {c:Int} {m:Nat}:∀ y∈cL c m,bq y=true:=by
 intro y hy
 have hs:=mT c
 rcases yO hy with ⟨k,_,rfl⟩ | rfl
 · exact m8 (by omega) (by omega)
 · exact BF (m8 (by omega) (by omega)) (by rw [ei]; omega)
theorem tS {c:Int} {m:Nat} (hm:m≤26):(cL c m).Nodup:=by
 have hs:=mT c
 have ha:=M0 c
 have base:((List.range m).map fun k=>bT c k (ig c)).Nodup:=by
  rw [List.Nodup,List.pairwise_map]
  refine List.Pairwise.imp_of_mem ?_ (List.nodup_range (n:=m))
  intro a b Xh Xi iE e
  exact iE (yN ha (by have:=FD.mp Xh; omega) (by have:=FD.mp Xi; omega) e)
 unfold cL
 split
 · generalize hl:((List.range m).map fun k=>bT c k (ig c))=l at base
   have hv:bT c 0 (ig c) ++ (⟨#[fH (oQ c / 147)]⟩:Str)∉l:=by
    intro z
    rw [← hl] at z
    obtain ⟨k,_,e⟩:=iV.mp z
    have:=congrArg Str.length e
    rw [lM,ei,ei] at this
    omega
   rw [List.Nodup,QL]
   rw [List.Nodup,QL] at base
   intro i j hi hj KP
   rw [List.length_set] at hi hj
   have b:=base i j hi hj KP
   rw [List.getElem_set,List.getElem_set]
   split
   · split
     · omega
     · intro z
       exact hv (by rw [z]; exact GP _)
   · split
     · intro z
       exact hv (by rw [← z]; exact GP _)
     · exact b
 · exact base
def tT (ys:List Str):Rw→Prop
 | .df f ps=>f∈ys∧ps.length≤2∧ps.Nodup∧∀ p∈ps,p∈ys
 | .give a=>cv ys a
 | .put x a=>x∈ys∧cv ys a
 | .xB x a op b=>x∈ys∧cv ys a∧op∈reckon∧cv ys b
 | .new x=>x∈ys
 | .get x r k=>x∈ys∧r∈ys∧vF ys k
 | .set r k a=>r∈ys∧vF ys k∧cv ys a
 | .call x f as=>x∈ys∧f∈ys∧as.length≤2∧∀ a∈as,cv ys a
 | .fail w=>w∈ys
 | .CO a=>cv ys a
 | .uL a=>cv ys a
 | _=>True
theorem vR {l:List Str} (nd:l.Nodup) {i j:Nat} (hi:i < l.length) (hj:j < l.length) (e:l[i]=l[j]):i=j:=by
 rw [List.Nodup,QL] at nd
 rcases Nat.lt_trichotomy i j with h | h | h
 · exact absurd e (nd i j hi hj h)
 · exact h
 · exact absurd e.symm (nd j i hj hi h)
theorem yP {ys:List Str} (hl:ys.length=6) (nd:ys.Nodup) {a:Int} {r:Nat} (hr:r≤2):((List.range r).map fun j=>ys.getD ((a+((j:Nat):Int)) % 4).toNat Str.empty).Nodup∧∀ p∈((List.range r).map fun j=>ys.getD ((a+((j:Nat):Int)) % 4).toNat Str.empty),p∈ys:=by
 have hm:∀ j:Nat,((a+(j:Int)) % 4).toNat < ys.length:=fun j=>by
  have h0:0≤(a+(j:Int)) % 4:=lT _ (by decide)
  have h1:(a+(j:Int)) % 4 < 4:=pd _ (by decide)
  omega
 have hg:∀ j:Nat,ys.getD ((a+(j:Int)) % 4).toNat Str.empty=ys[((a+(j:Int)) % 4).toNat]'(hm j):=fun j=>by
  rw [List.getD,n9 (hm j)]; rfl
 refine ⟨?_,?_⟩
 · rw [List.Nodup,List.pairwise_map]
   refine List.Pairwise.imp_of_mem ?_ (List.nodup_range (n:=r))
   intro i j hi hj iE e
   rw [hg,hg] at e
   have:=vR nd _ _ e
   have DC:=FD.mp hi
   have Mx:=FD.mp hj
   have a0:0≤(a+(i:Int)) % 4:=lT _ (by decide)
   have b0:0≤(a+(j:Int)) % 4:=lT _ (by decide)
   omega
 · intro p hp
   obtain ⟨j,_,rfl⟩:=iV.mp hp
   rw [hg]
   exact GP _
theorem yQ {ys:List Str} {pl:Plan} (hp:∀ f ps,(f,ps)∈pl→f∈ys∧ps.length≤2) {r:Rw} (h:fI ys pl r):tT ys r:=by
 cases r <;> first
  | exact h
  | exact h.elim
  | (obtain ⟨h1,⟨ps,h2,h3⟩,h4⟩:=h
     exact ⟨h1,(hp _ _ h2).1,by rw [h3]; exact (hp _ _ h2).2,h4⟩)
theorem Jj {ys:List Str} {pl:Plan} (hp:∀ f ps,(f,ps)∈pl→f∈ys∧ps.length≤2) {bB new cV} (h:kb ys pl bB new cV):∀ r∈new,tT ys r:=by
 rcases h with ⟨o,ho,rfl,_⟩ | ⟨o,ho,rfl,_⟩ | ⟨y,hy,rfl,_⟩ | ⟨s0,_,rfl,_⟩ | ⟨s0,x,_,rfl,_⟩ | ⟨r,hr,rfl,_⟩ <;> intro r' fY
 · simp only [cn,dU,or_false] at fY; subst fY; exact ho
 · simp only [cn,dU,or_false] at fY; subst fY; exact ho
 · simp only [cn,dU,or_false] at fY
   rcases fY with rfl | rfl
   · exact hy
   · exact ⟨hy,hy,by simp [reckon],by decide,by decide⟩
 · simp only [cn,dU,or_false] at fY; subst fY; trivial
 · simp only [cn,dU,or_false] at fY; subst fY; trivial
 · simp only [cn,dU,or_false] at fY; subst fY; exact yQ hp hr
theorem EH {ys:List Str} {pl:Plan} (hp:∀ f ps,(f,ps)∈pl→f∈ys∧ps.length≤2) {bB body} (h:Body ys pl bB body):∀ r∈body,tT ys r:=by
 induction h with
 | nil=>intro r hr; cases hr
 | step _ h2 ih =>
   intro r hr
   rcases gD.mp hr with hr | hr
   · exact ih r hr
   · exact Jj hp h2 r hr
theorem tU {ys:List Str} {pl:Plan} (hl:ys.length=6) (hP:kc ys pl):∀ f ps,(f,ps)∈pl→f∈ys∧ps.length≤2:=by
 intro f ps h
 obtain ⟨k,hk⟩:=List.getElem?_of_mem h
 obtain ⟨h1,a,r,hr,rfl⟩:=hP k f ps hk
 exact ⟨jO h1,by rw [bU,CB]; exact hr⟩
theorem Jk {ys:List Str} {pl:Plan} (hl:ys.length=6) (nd:ys.Nodup) (hP:kc ys pl) {n:Nat} {rs:List Rw} (h:Pre ys pl n rs):∀ r∈rs,tT ys r:=by
 have hp:=tU hl hP
 induction h with
 | zero=>intro r hr; cases hr
 | @succ k rs f ps bB body o sk _ hk hb ho hs ih =>
   intro r hr
   rcases gD.mp hr with hr | hr
   · exact ih r hr
   · rcases List.mem_cons.mp hr with rfl | hr
     · obtain ⟨h1,a,n,hn,rfl⟩:=hP k f ps hk
       have:=yP hl nd (a:=a) hn
       exact ⟨jO h1,by rw [bU,CB]; exact hn,this.1,this.2⟩
     · rcases gD.mp hr with hr | hr
       · exact EH (fun f ps h=>hp f ps (List.mem_of_mem_drop h)) hb r hr
       · rcases gD.mp hr with hr | hr
         · rw [(P4.mp hr).2]; trivial
         · rcases cn.mp hr with rfl | hr
           · exact ho
           · rcases hs with rfl | rfl
             · cases hr
             · simp only [cn,dU,or_false] at hr; subst hr; trivial
end Gen
deriving instance DecidableEq for cD.So
namespace cD
open PySem L2 VT Gen xi
theorem tV {ys:List Str} (nd:ys.Nodup):∀ n,n≤ys.length→met (fun i=>ys.getD i Str.empty) n=ys.take n
 | 0,_=>rfl
 | n+1,h=>by
   have hl:n < ys.length:=by omega
   have ih:=tV nd n (by omega)
   have e:ys.getD n Str.empty=ys[n]:=by rw [List.getD,n9 hl]; rfl
   have hn:ys[n]∉ys.take n:=by
    intro z
    obtain ⟨i,hi,he⟩:=List.mem_iff_getElem.mp z
    rw [List.getElem_take] at he
    rw [Fz] at hi
    have:=vR nd (by omega) hl he
    omega
   simp only [met,KU,ih,e]
   rw [if_neg (by simpa using hn),List.take_succ_eq_append_getElem hl]
theorem vS {ys:List Str} (nd:ys.Nodup):once ys=ys:=by
 unfold once
 rw [tV nd _ (dH _),Kw]
theorem jt {x:Str} (h:bq x=true):x.length≤8:=by
 unfold bq at h
 simp only [il,decide_eq_true_eq] at h
 omega
section
variable {ys:List Str}
theorem cQ (hn:∀ y∈ys,bq y=true) {o:lL} (h:cv ys o):gj (jg o)=true∧oS (jg o):=by
 cases o with
 | nm x =>
   have:=hn x h
   exact ⟨by show (bq x || false)=true; rw [this]; rfl,.inl ⟨x,rfl,by have:=jt this; omega⟩⟩
 | nu i =>
   obtain ⟨h1,h2⟩:=h
   exact ⟨by show (false || (decide (-1000000000000000000000000000000≤i) && decide (i < 1000000000000000000000000000000)))=true; rw [decide_eq_true h1,decide_eq_true h2]; rfl,.inr ⟨i,rfl⟩⟩
theorem cS (hn:∀ y∈ys,bq y=true) {x:Str} (h:x∈ys):dS (.str x)=true∧oS (.str x):=⟨hn x h,.inl ⟨x,rfl,by have:=jt (hn x h); omega⟩⟩
theorem tW (hn:∀ y∈ys,bq y=true) {k:Ky} (h:vF ys k):I9 (zW k)=true∧oS (zW k):=by
 cases k with
 | fld x =>
   have hx:=hn x h
   exact ⟨by show (qp _ || _)=true; rw [yo hx]; rfl,.inl ⟨_,rfl,by rw [xj]; have:=jt hx; omega⟩⟩
 | op o =>
   have:=cQ hn (o:=o) h
   exact ⟨by show (_ || gj (jg o))=true; rw [this.1,Bool.or_true],this.2⟩
theorem BG {op:Str} (h:op∈reckon):I_ (.str op)=true∧oS (.str op):=by
 simp only [reckon,cn,dU,or_false] at h
 rcases h with rfl | rfl | rfl | rfl | rfl | rfl | rfl <;> exact ⟨by decide +kernel,.inl ⟨_,rfl,by decide +kernel⟩⟩
theorem m9:∀ ps:List Str,strsOf (ps.map .str)=ps
 | []=>rfl
 | p :: ps=>by
   show p :: strsOf (ps.map .str)=_
   rw [m9 ps]
theorem BH (hn:∀ y∈ys,bq y=true) {ps:List Str} (h2:ps.length≤2) (nd:ps.Nodup) (hp:∀ p∈ps,p∈ys):Jb (.tup (ps.map .str))=true∧Part (.tup (ps.map .str)):=by
 have e1:(ps.map T.str).all dS=true:=uN.mpr fun t ht=>by
  obtain ⟨x,hx,rfl⟩:=iV.mp ht
  exact (cS hn (hp x hx)).1
 have e2:(ps.map T.str).all gj=true:=uN.mpr fun t ht=>by
  have:=uN.mp e1 t ht
  show (dS t || _)=true
  rw [this,Bool.true_or]
 refine ⟨?_,.inr ⟨_,rfl,by rw [bU]; omega,fun u hu=>?_⟩⟩
 · show ((decide _ && _) && (_ && decide _))=true
   rw [e1,e2,m9,vS nd,bU,decide_eq_true (by omega),decide_eq_true rfl]
   rfl
 · obtain ⟨x,hx,rfl⟩:=iV.mp hu
   exact (cS hn (hp x hx)).2
theorem BI (hn:∀ y∈ys,bq y=true) {as:List lL} (h2:as.length≤2) (ha:∀ a∈as,cv ys a):Ja (.tup (as.map jg))=true∧Part (.tup (as.map jg)):=by
 refine ⟨?_,.inr ⟨_,rfl,by rw [bU]; omega,fun u hu=>?_⟩⟩
 · show (decide _ && _)=true
   rw [decide_eq_true (by rw [bU]; omega),uI]
   refine uN.mpr fun t ht=>?_
   obtain ⟨x,hx,rfl⟩:=iV.mp ht
   exact (cQ hn (ha x hx)).1
 · obtain ⟨x,hx,rfl⟩:=iV.mp hu
   exact (cQ hn (ha x hx)).2
def kP (t:T):Prop:=∃ (x:Str) (ps:List T),t = .tup (.str x :: ps)∧ps.length≤4∧(∀ p∈ps,Part p)∧mZ x ps=true
theorem cT {x:Str} {ss:List So} {ps:List T} (hf:jq kO x=some ss) (hl:ps.length=ss.length) (h4:ps.length≤4) (hp:∀ p∈ps,Part p) (hz:(List.zipWith ij ss ps).all id=true):kP (.tup (.str x :: ps)):=by
 refine ⟨x,ps,rfl,h4,hp,?_⟩
 unfold mZ
 rw [hf]
 show (decide _ && _)=true
 rw [decide_eq_true hl,hz]
 rfl
theorem gW (hn:∀ y∈ys,bq y=true) {r:Rw} (h:tT ys r):kP (aN r):=by
 cases r with
 | df f ps =>
   obtain ⟨h1,h2,h3,h4⟩:=h
   have a:=cS hn h1
   have b:=BH hn h2 h3 h4
   refine cT (ss:=[.nm,.par]) (by decide +kernel) rfl (by simp) ?_ ?_
   · simp only [z8,dU,false_implies,implies_true,and_true]; exact ⟨.inl a.2,b.2⟩
   · simp only [z6,z7,r8,z_,ij,a.1,b.1]; rfl
 | give o =>
   have a:=cQ hn h
   refine cT (ss:=[.op]) (by decide +kernel) rfl (by simp) ?_ ?_
   · simp only [z8,dU,false_implies,implies_true,and_true]; exact .inl a.2
   · simp only [z6,z7,r8,z_,ij,a.1]; rfl
 | CO o =>
   have a:=cQ hn h
   refine cT (ss:=[.op]) (by decide +kernel) rfl (by simp) ?_ ?_
   · simp only [z8,dU,false_implies,implies_true,and_true]; exact .inl a.2
   · simp only [z6,z7,r8,z_,ij,a.1]; rfl
 | uL o =>
   have a:=cQ hn h
   refine cT (ss:=[.op]) (by decide +kernel) rfl (by simp) ?_ ?_
   · simp only [z8,dU,false_implies,implies_true,and_true]; exact .inl a.2
   · simp only [z6,z7,r8,z_,ij,a.1]; rfl
 | put x o =>
   have a:=cS hn h.1
   have b:=cQ hn h.2
   refine cT (ss:=[.nm,.op]) (by decide +kernel) rfl (by simp) ?_ ?_
   · simp only [z8,dU,false_implies,implies_true,and_true]; exact ⟨.inl a.2,.inl b.2⟩
   · simp only [z6,z7,r8,z_,ij,a.1,b.1]; rfl
 | xB x o op o2 =>
   have a:=cS hn h.1
   have b:=cQ hn h.2.1
   have c:=BG h.2.2.1
   have d:=cQ hn h.2.2.2
   refine cT (ss:=[.nm,.op,.rk,.op]) (by decide +kernel) rfl (by simp) ?_ ?_
   · simp only [z8,dU,false_implies,implies_true,and_true]; exact ⟨.inl a.2,.inl b.2,.inl c.2,.inl d.2⟩
   · simp only [z6,z7,r8,z_,ij,a.1,b.1,c.1,d.1]; rfl
 | new x =>
   have a:=cS hn h
   refine cT (ss:=[.nm]) (by decide +kernel) rfl (by simp) ?_ ?_
   · simp only [z8,dU,false_implies,implies_true,and_true]; exact .inl a.2
   · simp only [z6,z7,r8,z_,ij,a.1]; rfl
 | fail x =>
   have a:=cS hn h
   refine cT (ss:=[.nm]) (by decide +kernel) rfl (by simp) ?_ ?_
   · simp only [z8,dU,false_implies,implies_true,and_true]; exact .inl a.2
   · simp only [z6,z7,r8,z_,ij,a.1]; rfl
 | get x r k =>
   have a:=cS hn h.1
   have b:=cS hn h.2.1
   have c:=tW hn h.2.2
   refine cT (ss:=[.nm,.nm,.key]) (by decide +kernel) rfl (by simp) ?_ ?_
   · simp only [z8,dU,false_implies,implies_true,and_true]; exact ⟨.inl a.2,.inl b.2,.inl c.2⟩
   · simp only [z6,z7,r8,z_,ij,a.1,b.1,c.1]; rfl
 | set r k o =>
   have a:=cS hn h.1
   have b:=tW hn h.2.1
   have c:=cQ hn h.2.2
   refine cT (ss:=[.nm,.key,.op]) (by decide +kernel) rfl (by simp) ?_ ?_
   · simp only [z8,dU,false_implies,implies_true,and_true]; exact ⟨.inl a.2,.inl b.2,.inl c.2⟩
   · simp only [z6,z7,r8,z_,ij,a.1,b.1,c.1]; rfl
 | call x f as =>
   have a:=cS hn h.1
   have b:=cS hn h.2.1
   have c:=BI hn h.2.2.1 h.2.2.2
   refine cT (ss:=[.nm,.nm,.ops]) (by decide +kernel) rfl (by simp) ?_ ?_
   · simp only [z8,dU,false_implies,implies_true,and_true]; exact ⟨.inl a.2,.inl b.2,c.2⟩
   · simp only [z6,z7,r8,z_,ij,a.1,b.1,c.1]; rfl
 | _=>exact cT (ss:=[]) (by decide +kernel) rfl (by decide) (by simp) rfl
end
end cD
namespace Gen
open PySem L2 VT
def wd:Rw→Str
 | .df _ _=>"def"
 | .give _=>"give"
 | .put _ _=>"put"
 | .xB _ _ _ _=>"do"
 | .new _=>"new"
 | .get _ _ _=>"get"
 | .set _ _ _=>"set"
 | .call _ _ _=>"call"
 | .fail _=>"fail"
 | .CO _=>"if"
 | .M6=>"else"
 | .uL _=>"while"
 | .fin=>"end"
 | .skip=>"skip"
def d7 (st:List Str) (x:Str):Bool:=match st.getLast? with
 | none=>zU (.str x) [.str "def",.str "skip"]
 | some l=>if x="give" then decide (l="def") else if x="else" then decide (l="if") else if x="end" then !decide (l="def") else !decide (x="def")
def iy (st:List Str) (x:Str):List Str :=
 if x="def"∨x="if"∨x="while" then st ++ [x] else if x="give"∨x="end" then st.dropLast else if x="else" then st.dropLast ++ [("else" : Str)] else st
theorem qX (x:Str):∀ l:List Str,zU (.str x) (l.map .str)=decide (x∈l)
 | []=>by simp [zU]
 | y :: l=>by
   rw [fu]
   show (eqT (.str y) (.str x) || zU (.str x) (l.map .str))=_
   rw [qX x l]
   show (decide (y=x) || decide (x∈l))=_
   rw [Lg]
   simp only [Bool.or_eq_true,decide_eq_true_eq,cn]
   constructor
   · rintro (h | h)
     · exact .inl h.symm
     · exact .inr h
   · rintro (h | h)
     · exact .inl h.symm
     · exact .inr h
theorem EI (r:Rw):∃ l,aN r = .tup (.str (wd r) :: l):=by cases r <;> exact ⟨_,rfl⟩
theorem fN {α:Type} {f:α→T} {xs:List α} {h:FG} {g:FS} {d:HV} {ρ:En} (Pv:Nat→En→Prop) (h0:Pv 0 ρ) (hs:∀ (i:Nat) x ρ',xs[i]?=some x→Pv i ρ'→h (.tup [.int (i:Int),f x]) ρ' fun ρ2=>g { nx:=Pv (i+1),ct:=Pv (i+1),bk:=d.nx,rt:=d.rt } ρ2)
 (hd:∀ ρ',Pv xs.length ρ'→d.nx ρ'):i8 (kJ (xs.map f)) h g d ρ:=⟨Pv,h0,fun i t ρ' e p=>by
   unfold kJ at e
   rw [List.getElem?_mapIdx,oa] at e
   cases q:xs[i]? with
   | none=>rw [q] at e; cases e
   | some x=>rw [q] at e; cases e; exact hs i x ρ' q p,fun ρ' p=>hd ρ' (by unfold kJ at p; rw [List.length_mapIdx,bU] at p; exact p)⟩
def EJ (o:Option (List Str)) (r:Rw):Option (List Str):=o.bind fun st=>if d7 st (wd r)=true then some (iy st (wd r)) else none
def hU (o:Option (List Str)) (rs:List Rw):Option (List Str):=rs.foldl EJ o
theorem gk (o:Option (List Str)) (a b:List Rw):hU o (a ++ b)=hU (hU o a) b:=List.foldl_append
theorem tX (rs:List Rw):hU none rs=none:=by
 induction rs with
 | nil=>rfl
 | cons r rs ih=>exact ih
theorem yR {st:List Str} {r:Rw} (h:d7 st (wd r)=true):EJ (some st) r=some (iy st (wd r)):=by
 show (if d7 st (wd r)=true then _ else _)=_
 rw [if_pos h]
theorem cH {st:List Str} {r:Rw} (h:d7 st (wd r)=true):hU (some st) [r]=some (iy st (wd r)):=yR h
theorem BJ {rs:List Rw} {st:List Str} (h:hU (some []) rs=some st) (i:Nat) {r:Rw} (hr:rs[i]?=some r) :
  ∃ s,hU (some []) (rs.take i)=some s∧d7 s (wd r)=true∧hU (some []) (rs.take (i+1))=some (iy s (wd r)):=by
 have hi:=(h9.mp hr).1
 have e:rs=rs.take i ++ (r :: rs.drop (i+1)):=by
  have hg:=(h9.mp hr).2
  rw [← hg,List.getElem_cons_drop,List.take_append_drop]
 have e2:rs.take (i+1)=rs.take i ++ [r]:=by
  have hg:=(h9.mp hr).2
  rw [← hg,List.take_append_getElem]
 rw [e,gk] at h
 cases hs:hU (some []) (rs.take i) with
 | none =>
   rw [hs,tX] at h
   cases h
 | some s =>
   rw [hs] at h
   have h':hU (EJ (some s) r) (rs.drop (i+1))=some st:=h
   cases hm:d7 s (wd r) with
   | false =>
     have:EJ (some s) r=none:=by show (if d7 s (wd r)=true then _ else _)=_; rw [hm]; rfl
     rw [this,tX] at h'
     cases h'
   | true=>exact ⟨s,rfl,hm,by rw [e2,gk,hs]; exact cH hm⟩
abbrev lN:Str:="def"
def Hd (x:Str):Prop:=x="if"∨x="while"∨x="else"
theorem Hd.ne {x:Str} (h:Hd x):x≠"def":=by rcases h with rfl | rfl | rfl <;> decide +kernel
theorem pT {ys:List Str} {pl:Plan} {r:Rw} (h:fI ys pl r):∀ st,st≠[]→d7 st (wd r)=true∧iy st (wd r)=st:=by
 intro st C_
 obtain ⟨l,hl⟩:∃ l,st.getLast?=some l:=by
  cases e:st.getLast? with
  | none=>rw [List.getLast?_eq_none_iff] at e; exact absurd e C_
  | some l=>exact ⟨l,rfl⟩
 have k:∀ x:Str,(x="put"∨x="do"∨x="new"∨x="get"∨x="set"∨x="call"∨x="fail"∨x="skip")→d7 st x=true∧iy st x=st:=by
  intro x hx
  unfold d7 iy
  rw [hl]
  rcases hx with rfl | rfl | rfl | rfl | rfl | rfl | rfl | rfl <;> exact ⟨(by show (if _ then _ else _)=true; rw [if_neg (by decide +kernel),if_neg (by decide +kernel),if_neg (by decide +kernel)]; decide +kernel),(by rw [if_neg (by decide +kernel),if_neg (by decide +kernel),if_neg (by decide +kernel)])⟩
 cases r <;> first
  | exact h.elim
  | exact k _ (by simp [wd])
theorem Jl (st:List Str):iy st "if" = st ++ [("if" : Str)]:=by unfold iy; rw [if_pos (.inr (.inl rfl))]
theorem pU (st:List Str):iy st "while" = st ++ [("while" : Str)]:=by unfold iy; rw [if_pos (.inr (.inr rfl))]
theorem EK (st:List Str):iy st "def" = st ++ [lN]:=by unfold iy; rw [if_pos (.inl rfl)]
theorem xF (st:List Str):iy st "end" = st.dropLast:=by unfold iy; rw [if_neg (by decide +kernel),if_pos (by decide +kernel)]
theorem BK (st:List Str):iy st "give" = st.dropLast:=by unfold iy; rw [if_neg (by decide +kernel),if_pos (by decide +kernel)]
theorem BL (st:List Str):iy st "else" = st.dropLast ++ [("else" : Str)]:=by unfold iy; rw [if_neg (by decide +kernel),if_neg (by decide +kernel),if_pos rfl]
theorem qY (st:List Str) (l x:Str) (hx:x="if"∨x="while"):d7 (st ++ [l]) x=true:=by
 unfold d7
 rw [Lb]
 rcases hx with rfl | rfl <;> (show (if _ then _ else _)=true; rw [if_neg (by decide +kernel),if_neg (by decide +kernel),if_neg (by decide +kernel)]; decide +kernel)
theorem yS (st:List Str):d7 (st ++ [("if" : Str)]) "else" = true:=by
 unfold d7
 rw [Lb]
 show (if _ then _ else _)=true
 rw [if_neg (by decide +kernel),if_pos rfl]
 decide +kernel
theorem tY (st:List Str) {l:Str} (h:l≠"def"):d7 (st ++ [l]) "end" = true:=by
 unfold d7
 rw [Lb]
 show (if _ then _ else _)=true
 rw [if_neg (by decide +kernel),if_neg (by decide +kernel),if_pos rfl,decide_eq_false h]
 rfl
theorem yT (st:List Str):d7 (st ++ [lN]) "give" = true:=by
 unfold d7
 rw [Lb]
 show (if _ then _ else _)=true
 rw [if_pos rfl]
 decide +kernel
theorem xG {st:List Str} (h:st≠[]):∃ s l,st=s ++ [l]:=⟨st.dropLast,st.getLast h,(List.dropLast_concat_getLast h).symm⟩
theorem EL {ys:List Str} {pl:Plan} {bB new cV} (h:kb ys pl bB new cV) (hs:∀ x∈bB,Hd x) :
  hU (some (lN :: bB)) new=some (lN :: cV)∧∀ x∈cV,Hd x:=by
 have hd:∀ st:List Str,∃ s l,lN :: st=s ++ [l]:=fun st=>xG (by simp)
 rcases h with ⟨o,_,rfl,rfl⟩ | ⟨o,_,rfl,rfl⟩ | ⟨y,_,rfl,rfl⟩ | ⟨s0,rfl,rfl,rfl⟩ | ⟨s0,x,es,rfl,e'⟩ | ⟨r,hr,rfl,e'⟩
 · obtain ⟨s,l,e⟩:=hd bB
   refine ⟨?_,?_⟩
   · rw [cH (st:=lN :: bB) (r:=.CO o) (by rw [e]; exact qY s l _ (.inl rfl))]
     show some (iy _ "if")=_
     rw [Jl]; rfl
   · intro x hx
     rcases gD.mp hx with hx | hx
     · exact hs x hx
     · simp only [cn,dU,or_false] at hx; exact .inl hx
 · obtain ⟨s,l,e⟩:=hd bB
   refine ⟨?_,?_⟩
   · rw [cH (st:=lN :: bB) (r:=.uL o) (by rw [e]; exact qY s l _ (.inr rfl))]
     show some (iy _ "while")=_
     rw [pU]; rfl
   · intro x hx
     rcases gD.mp hx with hx | hx
     · exact hs x hx
     · simp only [cn,dU,or_false] at hx; exact .inr (.inl hx)
 · obtain ⟨s,l,e⟩:=hd bB
   refine ⟨?_,?_⟩
   · have h1:hU (some (lN :: bB)) [Rw.uL (.nm y)]=some ((lN :: bB) ++ [("while" : Str)]):=by
      rw [cH (st:=lN :: bB) (r:=.uL (.nm y)) (by rw [e]; exact qY s l _ (.inr rfl))]
      show some (iy _ "while")=_
      rw [pU]
     have h2:=pT (ys:=[y]) (pl:=[]) (r:=.xB y (.nm y) "minus" (.nu 1)) ⟨by simp,by simp [cv],by simp [reckon],by decide,by decide⟩ ((lN :: bB) ++ [("while" : Str)]) (by simp)
     show hU (hU (some (lN :: bB)) [Rw.uL (.nm y)]) [Rw.xB y (.nm y) "minus" (.nu 1)]=_
     rw [h1,cH h2.1,h2.2]; rfl
   · intro x hx
     rcases gD.mp hx with hx | hx
     · exact hs x hx
     · simp only [cn,dU,or_false] at hx; exact .inr (.inl hx)
 · refine ⟨?_,?_⟩
   · have e:lN :: (s0 ++ [("if" : Str)])=(lN :: s0) ++ [("if" : Str)]:=rfl
     rw [e,cH (yS _)]
     show some (iy _ "else")=_
     rw [BL,GL]; rfl
   · intro x hx
     rcases gD.mp hx with hx | hx
     · exact hs x (iU _ hx)
     · simp only [cn,dU,or_false] at hx; exact .inr (.inr hx)
 · subst es
   subst e'
   refine ⟨?_,fun y hy=>hs y (iU _ hy)⟩
   have e:lN :: (cV ++ [x])=(lN :: cV) ++ [x]:=rfl
   rw [e,cH (tY _ (hs x (by simp)).ne)]
   show some (iy _ "end")=_
   rw [xF,GL]
 · subst e'
   have:=pT hr (lN :: cV) (by simp)
   refine ⟨?_,hs⟩
   rw [cH this.1,this.2]
theorem BM {ys:List Str} {pl:Plan} {bB body} (h:Body ys pl bB body):hU (some [lN]) body=some (lN :: bB)∧∀ x∈bB,Hd x:=by
 induction h with
 | nil=>exact ⟨rfl,fun x hx=>nomatch hx⟩
 | step _ h2 ih =>
   have:=EL h2 ih.2
   exact ⟨by rw [gk,ih.1]; exact this.1,this.2⟩
theorem tZ:∀ (n:Nat) (bB:List Str),bB.length=n→(∀ x∈bB,Hd x)→hU (some (lN :: bB)) (List.replicate n .fin)=some [lN]
 | 0,bB,hl,_=>by
   rw [PN] at hl
   subst hl
   rfl
 | n+1,bB,hl,hs=>by
   obtain ⟨s,l,rfl⟩:=xG (st:=bB) (by intro z; subst z; cases hl)
   rw [Lc]
   show hU (hU (some ((lN :: s) ++ [l])) [Rw.fin]) (List.replicate n .fin)=_
   rw [cH (tY _ (hs l (by simp)).ne)]
   show hU (some (iy _ "end")) _=_
   rw [xF,GL]
   exact tZ n s (by simpa using hl) fun x hx=>hs x (iU _ hx)
theorem xH {ys:List Str} {pl:Plan} {n:Nat} {rs:List Rw} (h:Pre ys pl n rs):hU (some []) rs=some []:=by
 induction h with
 | zero=>rfl
 | @succ k rs f ps bB body o sk _ hk hb ho hs ih =>
   rw [gk,ih]
   show hU (hU (some []) [Rw.df f ps]) _=_
   rw [cH (by show d7 [] "def" = true; decide +kernel)]
   show hU (some (iy [] "def")) _=_
   rw [EK,gk]
   have hB:=BM hb
   show hU (hU (some [lN]) body) _=_
   rw [hB.1,gk,tZ _ bB rfl hB.2]
   show hU (hU (some ([] ++ [lN])) [Rw.give o]) sk=_
   rw [cH (yT [])]
   show hU (some (iy _ "give")) sk=_
   rw [BK,GL]
   rcases hs with rfl | rfl
   · rfl
   · rw [cH (by show d7 [] "skip" = true; decide +kernel)]
     show some (iy [] "skip")=_
     rfl
theorem yU (n:Nat):hU (some []) (List.replicate n .skip)=some []:=by
 induction n with
 | zero=>rfl
 | succ n ih =>
   rw [Lc]
   show hU (hU (some []) [Rw.skip]) (List.replicate n .skip)=_
   rw [cH (by show d7 [] "skip" = true; decide +kernel)]
   exact ih
def t4:List (Str×Nat)→Str→Option Nat
 | [],_=>none
 | (k,i) :: l,f=>if k=f then some i else t4 l f
theorem qZ (l m:List (Str×Nat)) (f:Str):t4 (l ++ m) f=match t4 l f with
  | some i=>some i
  | none=>t4 m f:=by
 induction l with
 | nil=>rfl
 | cons p l ih =>
   obtain ⟨k,i⟩:=p
   simp only [List.cons_append,t4]
   by_cases h:k=f
   · rw [if_pos h,if_pos h]
   · rw [if_neg h,if_neg h]; exact ih
def Jm (l:List (Str×Nat)) (i:Nat):Rw→List (Str×Nat)
 | .df f _=>match t4 l f with
   | some _=>l
   | none=>l ++ [(f,i)]
 | _=>l
def bG (rs:List Rw):Nat→List (Str×Nat)
 | 0=>[]
 | n+1=>match rs[n]? with
   | some r=>Jm (bG rs n) n r
   | none=>bG rs n
theorem t5 {rs:List Rw} {f:Str} {j:Nat}:∀ n,t4 (bG rs n) f=some j→j < n∧∃ ps,rs[j]?=some (.df f ps)
 | 0,h=>nomatch h
 | n+1,h=>by
   have old:t4 (bG rs n) f=some j→j < n+1∧∃ ps,rs[j]?=some (.df f ps):=fun h=>by
    have:=t5 n h
    exact ⟨by omega,this.2⟩
   simp only [bG] at h
   split at h
   · rename_i r hr
     cases r with
     | df g ps =>
       simp only [Jm] at h
       split at h
       · exact old h
       · rename_i hn
         rw [qZ] at h
         split at h
         · rename_i i hi
           cases h
           exact old hi
         · simp only [t4] at h
           split at h
           · rename_i e
             cases h
             subst e
             exact ⟨by omega,ps,hr⟩
           · cases h
     | _=>exact old h
   · exact old h
theorem pV {rs:List Rw} {f:Str} {i:Nat} {ps:List Str} (hi:rs[i]?=some (.df f ps)):∀ n,i < n→∃ j,t4 (bG rs n) f=some j
 | 0,h=>absurd h (by omega)
 | n+1,h=>by
   simp only [bG]
   by_cases e:i=n
   · subst e
     rw [hi]
     simp only [Jm]
     cases ha:t4 (bG rs i) f with
     | some j=>exact ⟨j,ha⟩
     | none =>
       refine ⟨i,?_⟩
       simp only
       rw [qZ,ha]
       simp only [t4,if_true]
   · obtain ⟨j,hj⟩:=pV hi n (by omega)
     split
     · rename_i r hr
       cases r with
       | df g qs =>
         simp only [Jm]
         split
         · exact ⟨j,hj⟩
         · rw [qZ,hj]; exact ⟨j,rfl⟩
       | _=>exact ⟨j,hj⟩
     · exact ⟨j,hj⟩
structure iO (rs:List Rw):Prop where
 un:∀ (i i':Nat) (f:Str) (ps CP:List Str),rs[i]?=some (Rw.df f ps)→rs[i']?=some (Rw.df f CP)→i=i'
 ca:∀ (i:Nat) (x f:Str) (as:List lL),rs[i]?=some (Rw.call x f as)→∃ (j:Nat) (ps:List Str),i < j∧rs[j]?=some (Rw.df f ps)∧ps.length=as.length
theorem iO.first {rs:List Rw} (h:iO rs) {i:Nat} {f:Str} {ps:List Str} (hi:rs[i]?=some (.df f ps)):t4 (bG rs rs.length) f=some i:=by
 obtain ⟨j,hj⟩:=pV hi rs.length (h9.mp hi).1
 obtain ⟨_,qs,hq⟩:=t5 _ hj
 rw [hj,h.un j i f qs ps hq hi]
def vT (pl:Plan):Rw→Prop
 | .df _ _=>False
 | .call _ f as=>∃ ps,(f,ps)∈pl∧as.length=ps.length
 | _=>True
theorem yV {ys:List Str} {pl:Plan} {r:Rw} (h:fI ys pl r):vT pl r:=by
 cases r <;> first
  | exact trivial
  | exact h.elim
  | exact h.2.1
theorem EM {ys:List Str} {pl:Plan} {bB body} (h:Body ys pl bB body):∀ r∈body,vT pl r:=by
 induction h with
 | nil=>intro r hr; cases hr
 | step _ h2 ih =>
   intro r hr
   rcases gD.mp hr with hr | hr
   · exact ih r hr
   · rcases h2 with ⟨o,ho,rfl,_⟩ | ⟨o,ho,rfl,_⟩ | ⟨y,hy,rfl,_⟩ | ⟨s0,_,rfl,_⟩ | ⟨s0,x,_,rfl,_⟩ | ⟨r',fY,rfl,_⟩
     · simp only [cn,dU,or_false] at hr; subst hr; trivial
     · simp only [cn,dU,or_false] at hr; subst hr; trivial
     · simp only [cn,dU,or_false] at hr; rcases hr with rfl | rfl <;> trivial
     · simp only [cn,dU,or_false] at hr; subst hr; trivial
     · simp only [cn,dU,or_false] at hr; subst hr; trivial
     · simp only [cn,dU,or_false] at hr; subst hr; exact yV fY
structure Td (pl:Plan) (k:Nat) (rs:List Rw):Prop where
 a:∀ (i:Nat) (f:Str) (ps:List Str),rs[i]?=some (Rw.df f ps)→∃ m,m < k∧pl[m]?=some (f,ps)
 c:∀ (i:Nat) (x f:Str) (as:List lL),rs[i]?=some (Rw.call x f as)→∃ (m:Nat) (ps:List Str),pl[m]?=some (f,ps)∧as.length=ps.length∧(m < k→∃ j,i < j∧rs[j]?=some (Rw.df f ps))
 u:∀ (i i':Nat) (f:Str) (ps CP:List Str),rs[i]?=some (Rw.df f ps)→rs[i']?=some (Rw.df f CP)→i=i'
theorem Ni {ys:List Str} {pl:Plan} (nd:ys.Nodup) (hP:kc ys pl) {n:Nat} {rs:List Rw} (h:Pre ys pl n rs):Td pl n rs:=by
 induction h with
 | zero=>exact ⟨fun i f ps h=>by simp at h,fun i x f as h=>by simp at h,fun i i' f ps CP h=>by simp at h⟩
 | @succ k rs f ps bB body o sk _ hk hb ho hs ih =>
   have SN:=EM hb
   generalize Nj:body ++ (List.replicate bB.length Rw.fin ++ (Rw.give o :: sk))=rest
   have hR:∀ r∈rest,vT (pl.drop (k+1)) r:=by
    intro r hr
    rw [← Nj] at hr
    rcases gD.mp hr with hr | hr
    · exact SN r hr
    · rcases gD.mp hr with hr | hr
      · rw [(P4.mp hr).2]; trivial
      · rcases cn.mp hr with rfl | hr
        · trivial
        · rcases hs with rfl | rfl
          · cases hr
          · simp only [cn,dU,or_false] at hr; subst hr; trivial
   have split:∀ i r,(rs ++ Rw.df f ps :: rest)[i]?=some r→rs[i]?=some r∨(i=rs.length∧r = .df f ps)∨(rs.length < i∧r∈rest):=by
    intro i r hi
    rcases Nat.lt_trichotomy i rs.length with h | h | h
    · rw [qc h] at hi; exact .inl hi
    · subst h
      rw [wN (dH _),Nat.sub_self] at hi
      exact .inr (.inl ⟨rfl,(Option.some.inj hi).symm⟩)
    · rw [wN (by omega)] at hi
      obtain ⟨d,hd⟩:∃ d,i - rs.length=d+1:=⟨i - rs.length - 1,by omega⟩
      rw [hd,List.getElem?_cons_succ] at hi
      exact .inr (.inr ⟨h,jO hi⟩)
   have here:(rs ++ Rw.df f ps :: rest)[rs.length]?=some (.df f ps):=by
    rw [wN (dH _),Nat.sub_self]; rfl
   have left:∀ j r,rs[j]?=some r→(rs ++ Rw.df f ps :: rest)[j]?=some r:=fun j r h=>by
    rw [qc (h9.mp h).1]; exact h
   have Gk:∀ (i:Nat) (g:Str) (qs:List Str),rs[i]?=some (Rw.df g qs)→g≠f:=by
    intro i g qs hi e
    obtain ⟨m,hm,hp⟩:=ih.a i g qs hi
    have h1:=(hP m g qs hp).1
    have h2:=(hP k f ps hk).1
    rw [e] at h1
    obtain ⟨l1,e1⟩:=h9.mp h1
    obtain ⟨l2,e2⟩:=h9.mp h2
    have:=vR nd l1 l2 (e1.trans e2.symm)
    omega
   refine ⟨fun i g qs hi=>?_,fun i x g as hi=>?_,fun i i' g qs Xj hi DC=>?_⟩
   · rcases split i _ hi with h | ⟨_,e⟩ | ⟨_,h⟩
     · obtain ⟨m,hm,hp⟩:=ih.a i g qs h
       exact ⟨m,by omega,hp⟩
     · cases e; exact ⟨k,by omega,hk⟩
     · exact (hR _ h).elim
   · rcases split i _ hi with h | ⟨_,e⟩ | ⟨_,h⟩
     · obtain ⟨m,qs,hp,hl,hj⟩:=ih.c i x g as h
       refine ⟨m,qs,hp,hl,fun hm=>?_⟩
       by_cases e:m=k
       · subst e
         rw [hk] at hp
         cases hp
         exact ⟨rs.length,(h9.mp h).1,here⟩
       · obtain ⟨j,h1,h2⟩:=hj (by omega)
         exact ⟨j,h1,left j _ h2⟩
     · cases e
     · obtain ⟨qs,hq,hl⟩:=hR _ h
       obtain ⟨m,hm⟩:=List.getElem?_of_mem hq
       rw [List.getElem?_drop] at hm
       exact ⟨k+1+m,qs,hm,hl,fun z=>absurd z (by omega)⟩
   · rcases split i _ hi with h | ⟨h,e⟩ | ⟨_,h⟩
     · rcases split i' _ DC with h' | ⟨h',e'⟩ | ⟨_,h'⟩
       · exact ih.u i i' g qs Xj h h'
       · cases e'; exact absurd rfl (Gk i _ _ h)
       · exact (hR _ h').elim
     · rcases split i' _ DC with h' | ⟨h',e'⟩ | ⟨_,h'⟩
       · cases e; exact absurd rfl (Gk i' _ _ h')
       · omega
       · exact (hR _ h').elim
     · exact (hR _ h).elim
theorem BN {ys:List Str} {pl:Plan} (nd:ys.Nodup) (hP:kc ys pl) {rs:List Rw} (h:Pre ys pl pl.length rs):iO rs:=by
 have P:=Ni nd hP h
 refine ⟨P.u,fun i x f as hi=>?_⟩
 obtain ⟨m,ps,hp,hl,hj⟩:=P.c i x f as hi
 obtain ⟨j,h1,h2⟩:=hj (h9.mp hp).1
 exact ⟨j,ps,h1,h2,hl.symm⟩
theorem vU {rs:List Rw} (n:Nat) (h:iO rs):iO (List.replicate n .skip ++ rs):=by
 have sh:∀ i r,(List.replicate n Rw.skip ++ rs)[i]?=some r→r = .skip∨∃ d,i=n+d∧rs[d]?=some r:=by
  intro i r hi
  by_cases hl:i < n
  · rw [qc (by simpa using hl),Fv,if_pos hl] at hi
    exact .inl (Option.some.inj hi).symm
  · rw [wN (by simpa using hl),CW] at hi
    exact .inr ⟨i - n,by omega,hi⟩
 have bk:∀ d r,rs[d]?=some r→(List.replicate n Rw.skip ++ rs)[n+d]?=some r:=fun d r hd=>by
  rw [wN (by simp),CW,Nat.add_sub_cancel_left]; exact hd
 refine ⟨fun i i' f ps CP h1 h2=>?_,fun i x f as h1=>?_⟩
 · rcases sh i _ h1 with e | ⟨d,rfl,hd⟩
   · cases e
   · rcases sh i' _ h2 with e | ⟨d',rfl,Q6⟩
     · cases e
     · rw [h.un d d' f ps CP hd Q6]
 · rcases sh i _ h1 with e | ⟨d,rfl,hd⟩
   · cases e
   · obtain ⟨j,ps,hj,hp,hl⟩:=h.ca d x f as hd
     exact ⟨n+j,ps,by omega,bk j _ hp,hl⟩
end Gen
namespace VT
open PySem PySem.Spec PyProof.Rows L2
section
variable {X:Cx}
end
section
variable {X:Cx} {Z:Zc} {a b:Expr} {fa fb:FE} {pos:Pos}
end
section
variable {X:Cx} {Z:Zc}
def Te:FS:=fun _ _=>False
theorem gX {st:Stmt}:VS X Z st Te:=.mk fun tm pins s σ H D I ⟨_,_,_,_,h,_⟩=>h.elim
theorem EN:zS X "dict.setdefault" (fun x xs H Q=>∃ (a:Addr) (aU:List (Key×V)) (k:Key) (v:V),x = .ref a∧xs=[kV k,v]∧H a=some (.dK aU)∧aU.length < sizeLine ∧
  (∀ u,gC aU k=some u→Q u H)∧(gC aU k=none→Q v (upd H a (.dK (L2.putK aU k v))))):=by
 intro pins s σ H x xs v us Q I rx rs h
 obtain ⟨a,aU,k,y,rfl,rfl,ha,zP,q1,q2⟩:=h
 cases rx
 obtain ⟨u1,u2,rfl,Xk,Vz⟩:∃ u1 u2,us=[u1,u2]∧RelV (kV k) u1∧RelV y u2:=by
  cases rs with
  | cons r1 t=>cases t with
    | cons r2 t2=>cases t2; exact ⟨_,_,rfl,r1,r2⟩
 obtain ⟨z,hd,vs,rel,dd⟩:=MV I.bA ha
 refine call_meetsIn PySem.F.slot_dict_setdefault dd.typeIs PySem.F.entry_dict_setdefault (PySem.F.args_dict_setdefault_3 _ _ _) (kt_meets_setdefault (bw X.prog X.w) a (sY Xk) hd u2) ⟨vs,dd,by rw [← rel.length]; omega,fun v0 hv=>?_,fun hn h' MZ hs=>?_⟩
 · have vt:=rel.val k
   rw [hv] at vt
   cases e:gC aU k with
   | none=>rw [e] at vt; cases vt
   | some w0 =>
     rw [e] at vt
     have hr:RelV w0 v0:=vt
     exact ⟨w0,H,I.tok _,hr,q1 w0 e⟩
 · have vt:=rel.val k
   rw [hn] at vt
   cases e:gC aU k with
   | some w0=>rw [e] at vt; cases vt
   | none =>
     have he:∃ q,h'.get? a=some q:=let ⟨q,_,_,hq,_⟩:=MZ; ⟨q,hq⟩
     have hl:(L2.putK aU k y).length≤sizeLine:=by have:=sX aU k y; omega
     exact ⟨y,_,Eo (t':=s.toks+1) I (by rw [ha]; exact True.intro) hs he (IK hl hd (rel.put k Vz) MZ),Vz,q2 e⟩
end
section
variable {X:Cx} {Z:Zc} {e1 e2:Expr} {f1 f2:FE} {apos a_:Pos}
def Gm (n:Nat) (f1 f2:FE):FX:=fun ρ Q=>match ρ[n]? with
 | some (some (.dk ks ts,true))=>f1 ρ fun x=>f2 ρ fun y=>match Bi x with
   | some k=>ts.length < 16777216∧match ff ks ts k with
     | some t=>Q ρ (.vw t)
     | none=>Q (ρ.set n (some (.dk (ks ++ [k]) (ts ++ [y]),true))) (.vw y)
   | none=>False
 | _=>False
theorem EO (n:Nat) {x:Str} {p:Pos} (h1:VE X Z e1 f1) (h2:VE X Z e2 f2)
  (hN:X.N[n]?=some x:=by rfl) (hv:uJ X.env.scope x:=by first | exact Or.inl rfl | exact Or.inr (Or.inl rfl) | exact Or.inr (Or.inr rfl)) (hd:(x == ("__debug__" : Str))=false:=by decide)
  (iq:(x == ("__classdict__" : Str))=false:=by decide) (dO:attributeBase (.Name x p) "setdefault" X.env (eval (.Name x p) X.env)=eval (.Name x p) X.env:=by rfl)
  (jX:((backTo a_ (starEach [e1,e2] X.env)).all (fun x=>!x.1) && (backToKw a_ (keywordEach [] X.env)).all (fun x=>x.1.isSome)
    && decide (([e1,e2]:List Expr).length+([]:List Keyword).length+(if ([]:List Keyword).isEmpty then 0 else 1) < 30))=true:=by rfl)
  (dP:(apos.endLine == a_.line)=true:=by rfl) (hs:starEach [e1,e2] X.env=(false,eval e1 X.env) :: starEach [e2] X.env:=by rfl) (CL:starEach [e2] X.env=(false,eval e2 X.env) :: starEach [] X.env:=by rfl)
  (dw:(backTo a_ (starEach [e2] X.env)).any (·.1)=false:=by rfl) :
  VX X Z (.Call (.Attribute (.Name x p) "setdefault" apos) [e1,e2] [] a_) (Gm n f1 f2):=.mk fun tm =>
 PE.weak (pC QR PySem.F.slot_dict_setdefault PySem.F.type_dict_setdefault EN (eA hN hv hd iq) (bY (h1 tm) (bY (h2 tm) dW CL) hs) dO jX dP hs dw) fun σ H Q ⟨ρ,O,q,I,hf,kk⟩=>by
  unfold Gm at hf
  split at hf
  · rename_i ks ts e0
    obtain ⟨l,g1,g2,xs,hl,g3,g4⟩:=I.root e0
    have ha:l∈av Z O:=iU _ (aH.mpr (jO g1))
    refine ⟨.ref l,g2,.inr (.inr (.inl ⟨rfl,.inl ⟨_,g3⟩⟩)),ρ,O,_,I,hf,fun t ht v H1 s1 a1=>⟨ρ,O,_,I.same s1,ht,fun y hy w H2 s2 a2=>?_⟩⟩
    split at hy
    · rename_i KZ ek
      obtain ⟨hlen,hy⟩:=hy
      have ev:v=kV KZ:=qN (.inl a1) ek
      subst ev
      have hz:(ks.zip xs).length < sizeLine:=by
       rw [sizeLine_eq,List.length_zip,hl,Nat.min_self,g4.length]
       omega
      have J:=(I.same s1).same s2
      have b4:=(g4.same s1).same s2
      refine ⟨l,ks.zip xs,KZ,w,rfl,rfl,s2 _ _ (s1 _ _ g3),hz,fun u hu=>?_,fun hn=>?_⟩
      · rw [eJ] at hu
        cases eg:ff ks ts KZ with
        | none=>rw [(gh b4).2 eg] at hu; cases hu
        | some t0 =>
          rw [eg] at hy
          obtain ⟨v0,e1,e2⟩:=(gh b4).1 t0 eg
          rw [e1] at hu
          cases hu
          exact kk _ _ hy O _ _ ⟨J,e2⟩
      · rw [eJ] at hn
        cases eg:ff ks ts KZ with
        | some t0 =>
          obtain ⟨v0,e1,e2⟩:=(gh b4).1 t0 eg
          rw [e1] at hn
          cases hn
        | none =>
          rw [eg] at hy
          have e1:L2.putK (ks.zip xs) KZ w=(ks ++ [KZ]).zip (xs ++ [w]):=by
           rw [Be _ (by rw [eJ]; exact hn),List.zip_append hl]
           rfl
          rw [e1]
          refine kk _ _ hy O _ _ ⟨J.wrote e0 g1 ⟨xs ++ [w],by simp [hl],aX,?_⟩,a2.wrote ha (s2 _ _ (s1 _ _ g3)) rfl⟩
          exact (b4.append (au.cons a2 au.nil)).wrote ha (s2 _ _ (s1 _ _ g3)) rfl
    · exact hy.elim
  · exact hf.elim
end
end VT
namespace cD
open PySem L2 VT Gen xi
abbrev dm:Stmt:=top 27
abbrev d8:Stmt:=top 28
abbrev dn:Stmt:=top 29
abbrev e6:Stmt:=top 30
abbrev ej:Stmt:=top 31
abbrev dN:Stmt:=top 32
abbrev d9:Stmt:=top 33
abbrev gm:Stmt:=top 34
structure ER (w:World) (K:PySem.W.Frag) (mg:Str→Option Value):Prop where
 yW:∃ t,mg "MOST_ROWS" = some (.int 60 t)
 ES:∃ a,mg "OPENERS" = some (.ref a)∧∀ H,dq K H a [.str "def",.str "if",.str "while"]
 ET:∃ a,mg "CLOSERS" = some (.ref a)∧∀ H,dq K H a [.str "give",.str "end"]
 list:mg "list" = none
 len:mg "len" = none
 enumerate:mg "enumerate" = none
structure Acc (rs:List Rw):Prop where
 n:rs.length≤60
 g:∀ r∈rs,kP (aN r)
 b:hU (some []) rs=some []
 d:iO rs
def Nk (ts:List T) (q:Rt→Prop):Prop:=∃ (st:List Str) (x:Str),ts=[.lst (st.map .str),.str x]∧q (.vw (.bl (d7 st x)))
def VB:GT:=fun ts q=>∃ (st:List Str) (x:Str),ts=[.lst (st.map .str),.str x]∧st.length≤1000∧d7 st x=true∧q [.lst ((iy st x).map .str)] (.vw .bp)
def BO (ts:List T) (q:Rt→Prop):Prop:=∃ rs:List Rw,ts=[.lst (rs.map aN)]∧(∀ r∈rs,kP (aN r))∧q (.vw .bp)
def t6 (ts:List T) (q:Rt→Prop):Prop:=∃ rs:List Rw,ts=[.lst (rs.map aN)]∧rs.length≤60∧hU (some []) rs=some []∧q (.vw .bp)
def Jn (l:List (Str×Nat)):T:=.dk (l.map fun p=>(Sum.inr p.1:Key)) (l.map fun p=>T.int (p.2:Int))
def BP (ts:List T) (q:Rt→Prop):Prop:=∃ rs:List Rw,ts=[.lst (rs.map aN)]∧rs.length≤60∧q (.fr (Jn (bG rs rs.length)))
def Gn (ts:List T) (q:Rt→Prop):Prop:=∃ (rs:List Rw) (l:List (Str×Nat)) (i:Nat) (x f:Str) (as:List lL) (j:Nat) (ps:List Str),ts=[.lst (rs.map aN),Jn l,.int (i:Int)]∧rs[i]?=some (Rw.call x f as)∧t4 l f=some j∧i≤j∧rs[j]?=some (Rw.df f ps)∧ps.length=as.length∧q (.vw (.bl true))
def xI (ts:List T) (q:Rt→Prop):Prop:=∃ rs:List Rw,ts=[.lst (rs.map aN)]∧rs.length≤60∧iO rs∧q (.vw .bp)
def ju (ts:List T) (q:Rt→Prop):Prop:=∃ rs:List Rw,ts=[.lst (rs.map aN)]∧Acc rs∧q (.fr (.lst (rs.map aN)))
theorem xJ {rs:List Rw} {i:Nat} {r:Rw} (h:rs[i]?=some r):jW (rs.map aN) (i:Int)=some (aN r):=aG (by rw [oa,h]; rfl)
theorem vV (l:List (Str×Nat)) (f:Str):ff (l.map fun p=>(Sum.inr p.1:Key)) (l.map fun p=>T.int (p.2:Int)) (Sum.inr f)=(t4 l f).map fun i=>T.int (i:Int):=by
 induction l with
 | nil=>rfl
 | cons p l ih =>
   obtain ⟨k,i⟩:=p
   simp only [fu,ff,t4]
   by_cases h:k=f
   · rw [if_pos h,if_pos (by rw [h])]; rfl
   · rw [if_neg h,if_neg (fun z=>h (Sum.inr.inj z))]; exact ih
theorem m_ (rs:List Rw):∀ n,(bG rs n).length≤n
 | 0=>dH _
 | n+1=>by
   have:=m_ rs n
   simp only [bG]
   split
   · rename_i r _
     cases r <;> simp only [Jm] <;> first
      | omega
      | (split <;> simp <;> omega)
   · omega
section
variable {P:Program} {w:World} {K:PySem.W.Frag} {mg:Str→Option Value} {base:Heap}
abbrev t7:List Str:=["opened","word"]
theorem jw:aE t7 ["opened","word"] (ak e6):=⟨rfl,rfl,rfl,by decide +kernel,rfl,by decide +kernel,by decide +kernel⟩
theorem q8 {f:Addr} {fd:FuncData} (D:Df K mg "may_stand" e6 ["opened","word"] f fd) (M:ER w K mg):bX P w K mg base "may_stand" ["opened","word"] 1 (bR K 2 Nk):=by
 refine D.gA (gN D.F jw rfl fun bZ A outer s H E Ox hr ts q hG=>?_)
 have nd:=jw.nd
 have hu:=bP.gg hr
 refine ⟨_,(ae (aQ (bQ hu (VP.vr (ax az aB (by rfl) M.len h_ (aj (aa 0) ao))) (VP.vr ag))
    (af (aw (VP.vx (AZ (aa 1) (VP.vr (bx (ab (VP.ve ar) (ab (VP.ve ar) ah))))))))
    ay)
   (ae (aQ (bQ hu (aa 1) (VP.vr ar))
     (af (aw (VP.vx (i5 hu (VP.vr (bo (aa 0) (VP.vr (iI (VP.vr ag))))) (VP.vr ar)))))
     ay)
   (ae (aQ (bQ hu (aa 1) (VP.vr ar))
     (af (aw (VP.vx (i5 hu (VP.vr (bo (aa 0) (VP.vr (iI (VP.vr ag))))) (VP.vr ar)))))
     ay)
   (ae (aQ (bQ hu (aa 1) (VP.vr ar))
     (af (aw (VP.vx (F0 hu (VP.vr (bo (aa 0) (VP.vr (iI (VP.vr ag))))) (VP.vr ar)))))
     ay)
   (af (aw (VP.vx (F0 hu (aa 1) (VP.vr ar))))))))),fun _=>?_⟩
 obtain ⟨st,x,rfl,hq⟩:=hG
 rcases PZ st with e | ⟨s0,l,e⟩
 · subst e
   exact ⟨small (by simp),rfl,rfl,hq⟩
 · rw [List.concat_eq_append] at e
   have hl:((st.map T.str).length:Int)≠0:=by rw [e]; simp; omega
   have ex:jW (st.map T.str) (-1)=some (T.str l):=by rw [e,qd]; exact si _ _
   unfold d7 at hq
   rw [e,Lb] at hq
   refine d5 (c:=decide (((st.map T.str).length:Int)=0)) (decide_eq_false hl) ?_
   have fj:q (.vw (.bl (if x="give" then decide (l="def") else if x="else" then decide (l="if") else if x="end" then !decide (l="def") else !decide (x="def")))):=hq
   refine cg (fun h=>?_) (fun h=>?_)
   · rw [if_pos h] at fj; exact ⟨_,ex,fj⟩
   · rw [if_neg h] at fj
     refine cg (fun h=>?_) (fun h=>?_)
     · rw [if_pos h] at fj; exact ⟨_,ex,fj⟩
     · rw [if_neg h] at fj
       refine cg (fun h=>?_) (fun h=>?_)
       · rw [if_pos h] at fj; exact ⟨_,ex,fj⟩
       · rw [if_neg h] at fj; exact fj
abbrev q9:List Str:=["program","place","row"]
theorem iz:aE q9 ["program"] (ak d8):=⟨rfl,rfl,rfl,by decide +kernel,rfl,by decide +kernel,by decide +kernel⟩
theorem oT {f:Addr} {fd:FuncData} (D:Df K mg "check_rows" d8 ["program"] f fd) (M:ER w K mg) (nc:bX P w K mg base "is_row" ["row"] 5 (bR K 1 Jh)):bX P w K mg base "check_rows" ["program"] 6 (bR K 1 BO):=by
 obtain ⟨BQ,yX,ng,nh,ni,nq⟩:=nc
 refine D.gA (gN D.F iz rfl fun bZ A outer s H E Ox hr ts q hG=>?_)
 have nd:=iz.nd
 have np:∀ {i:Nat},aT ⟨H,[],Ox⟩ i:=kK
 refine ⟨_,(af (cU uO rfl (jc (by rfl) M.enumerate (ai 0)) (gd (n:=2) rfl (br (aI (i:=1) nd rfl (Or.inl rfl) np) (br (aI (i:=2) nd rfl (Or.inl rfl) np) d4)))
   (af (aQ (cu (bV (aD nq (hr.mono (by decide)) (by rfl) ng nh ni (ab (ai 2) ah))))
     (af gX)
     ay)))),fun _=>?_⟩
 obtain ⟨rs,rfl,hg,hq⟩:=hG
 refine fN (fun i ρ=>∃ b1 b2,ρ=[some (.lst (rs.map aN),false),b1,b2]) ⟨_,_,rfl⟩ ?_ ?_
 · rintro i r ρ hr ⟨b1,b2,rfl⟩
   obtain ⟨x,ps,ex,Tf,Tg,Th⟩:=hg r (jO hr)
   refine ⟨rfl,rfl,rfl,x,ps,by rw [← ex],by omega,Tg,?_⟩
   rw [Th]
   exact ⟨_,_,rfl⟩
 · rintro ρ ⟨b1,b2,rfl⟩
   exact hq
abbrev km:List Str:=["opened","word"]
theorem ny:aE km ["opened","word"] (ak ej):=⟨rfl,rfl,rfl,by decide +kernel,rfl,by decide +kernel,by decide +kernel⟩
theorem vW {f:Addr} {fd:FuncData} (D:Df K mg "go_past" ej ["opened","word"] f fd) (M:ER w K mg):bX P w K mg base "go_past" ["opened","word"] 1 (qv K [true,false] VB):=by
 refine D.gA (Sq D.F ny rfl fun bZ A outer s H E as Ox hr ts q hl hG=>?_)
 have nd:=ny.nd
 have hu:=bP.gg hr
 obtain ⟨aO,mO,hO⟩:=M.ES
 obtain ⟨aC,mC,hC⟩:=M.ET
 have yY:∀ {pos},VP (ib jN P w K mg base km "go_past" (ak ej) f bZ A outer s H E).r0 ⟨H,pz [true,false] as 0,Ox⟩ (.Name "OPENERS" pos) (fC (.tup [.str "def",.str "if",.str "while"])):=dI (by rfl) mO (v:=.ref aO) rfl fun H A=>bt (hO H) (au.cons bE (au.cons bE (au.cons bE au.nil)))
 have yZ:∀ {pos},VP (ib jN P w K mg base km "go_past" (ak ej) f bZ A outer s H E).r0 ⟨H,pz [true,false] as 0,Ox⟩ (.Name "CLOSERS" pos) (fC (.tup [.str "give",.str "end"])):=dI (by rfl) mC (v:=.ref aC) rfl fun H A=>bt (hC H) (au.cons bE (au.cons bE au.nil))
 refine ⟨_,(af (aQ (F9 (aa 1) (VP.vr yY))
    (af (aW (du 0 rY rZ aY aV (ab (ai 1) ah))))
    (af (aQ (F9 (aa 1) (VP.vr yZ))
      (af (aW (vf 0 PySem.F.slot_list_pop PySem.F.type_list_pop Ay xp)))
      (af (aQ (bQ hu (aa 1) (VP.vr ar))
        (af (vg 0 (VP.ve ar) (VP.vr (iI (VP.vr ag)))))
        ay)))))),?_⟩
 obtain ⟨st,x,rfl,hl,hm,hq⟩:=hG
 have e1:zU (.str x) [.str "def",.str "if",.str "while"]=decide (x="def"∨x="if"∨x="while"):=by
  have:=qX x ["def","if","while"]
  rw [show ([.str "def",.str "if",.str "while"]:List T)=(["def","if","while"]:List Str).map .str from rfl,this]
  simp
 have e2:zU (.str x) [.str "give",.str "end"]=decide (x="give"∨x="end"):=by
  have:=qX x ["give","end"]
  rw [show ([.str "give",.str "end"]:List T)=(["give","end"]:List Str).map .str from rfl,this]
  simp
 unfold iy at hq
 refine ⟨rfl,rfl,?_⟩
 rw [e1]
 refine cg (fun h=>?_) (fun h=>?_)
 · rw [if_pos h] at hq
   refine ⟨(by rw [sizeLine_eq,bU]; omega),?_⟩
   show q [.lst (st.map .str ++ [.str x])] _
   rw [qd] at hq
   exact hq
 · rw [if_neg h] at hq
   refine ⟨rfl,rfl,?_⟩
   rw [e2]
   have ne:(x="give"∨x="end")∨x="else"→∃ s0 l,st=s0 ++ [l]:=fun hx=>by
    rcases PZ st with e | ⟨s0,l,e⟩
    · subst e
      exfalso
      rcases hx with (rfl | rfl) | rfl <;> exact absurd hm (by decide +kernel)
    · exact ⟨s0,l,by rw [e,QK]⟩
   refine cg (fun h2=>?_) (fun h2=>?_)
   · rw [if_pos h2] at hq
     obtain ⟨s0,l,rfl⟩:=ne (.inl h2)
     refine ⟨rfl,.str l,by simp,?_⟩
     show q [.lst (((s0 ++ [l]).map T.str).dropLast)] _
     rw [GL] at hq
     rw [qd]
     show q [.lst ((s0.map T.str ++ [T.str l]).dropLast)] _
     rw [GL]
     exact hq
   · rw [if_neg h2] at hq
     refine cg (fun h3=>?_) (fun h3=>?_)
     · rw [if_pos h3] at hq
       obtain ⟨s0,l,rfl⟩:=ne (.inr h3)
       have Ej:((s0 ++ [l]).map T.str).length=s0.length+1:=by simp
       refine ⟨s0.length,?_,?_⟩
       · unfold w_
         rw [Ej,if_neg (by decide),if_pos (by omega)]
         congr 1
         omega
       · show q [.lst (((s0 ++ [l]).map T.str).set s0.length (T.str "else"))] _
         rw [GL] at hq
         have e3:((s0 ++ [l]).map T.str).set s0.length (T.str "else")=(s0 ++ [("else" : Str)]).map T.str:=by simp
         rw [e3]
         exact hq
     · rw [if_neg h3] at hq
       exact hq
abbrev nz:List Str:=["program","opened","place","row"]
theorem gy:aE nz ["program"] (ak dn):=⟨rfl,rfl,rfl,by decide +kernel,rfl,by decide +kernel,by decide +kernel⟩
theorem k9 {f:Addr} {fd:FuncData} (D:Df K mg "check_blocks" dn ["program"] f fd) (M:ER w K mg) (t8:bX P w K mg base "may_stand" ["opened","word"] 1 (bR K 2 Nk)) (y0:bX P w K mg base "go_past" ["opened","word"] 1 (qv K [true,false] VB)):bX P w K mg base "check_blocks" ["program"] 3 (bR K 1 t6):=by
 obtain ⟨Gp,EU,t9,t_,ua,ub⟩:=t8
 obtain ⟨K0,Jo,y1,y2,y3,y4⟩:=y0
 refine D.gA (gN D.F gy rfl fun bZ A outer s H E Ox hr ts q hG=>?_)
 have nd:=gy.nd
 have np:∀ {i:Nat},aT ⟨H,[],Ox⟩ i:=kK
 refine ⟨_,(ae (e8 (i:=1) nd rfl (Or.inl rfl) (VP.vx (cK ah)) np)
   (ae (cU uO rfl (jc (by rfl) M.enumerate (ai 0)) (gd (n:=2) rfl (br (aI (i:=2) nd rfl (Or.inl rfl) np) (br (aI (i:=3) nd rfl (Or.inl rfl) np) d4)))
     (ae (aQ (cu (bV (gL ub (hr.mono (by decide)) (by rfl) t9 t_ ua (aj (aa 1) (aj (VP.vr (bo (aa 3) (VP.vr ag))) ao)))))
       (af gX)
       ay)
     (af (aW (sO y4 (hr.mono (by decide)) (by rfl) y1 y2 y3 (qx 1 (i_ (VP.ve (bo (aa 3) (VP.vr ag))) xu)))))))
   (af (aQ (sI (VP.vr (ax az aB (by rfl) M.len h_ (aj (aa 1) ao))) (VP.vr ag))
     (af gX)
     ay)))),fun _=>?_⟩
 obtain ⟨rs,rfl,hn,hb,hq⟩:=hG
 refine ⟨ia _,?_⟩
 refine fN (fun i ρ=>∃ b2 b3 st,ρ=[some (.lst (rs.map aN),false),some (.lst (st.map .str),true),b2,b3]∧hU (some []) (rs.take i)=some st∧st.length≤i) ⟨_,_,[],rfl,rfl,ia _⟩ ?_ ?_
 · rintro i r ρ hr ⟨b2,b3,st,rfl,hs,hl⟩
   have hi:=(h9.mp hr).1
   obtain ⟨s',e1,hm,e2⟩:=BJ hb i hr
   rw [hs] at e1
   cases e1
   obtain ⟨l,el⟩:=EI r
   rw [el]
   refine ⟨rfl,rfl,_,aG (j:=0) rfl,rfl,st,wd r,rfl,?_⟩
   rw [hm]
   refine ⟨rfl,_,aG (j:=0) rfl,st,wd r,rfl,by omega,hm,?_⟩
   refine ⟨_,_,iy st (wd r),rfl,e2,?_⟩
   unfold iy
   split
   · rw [kS]; simp; omega
   · split
     · rw [List.length_dropLast]; omega
     · split
       · rw [kS,List.length_dropLast]; simp
         cases st with
         | nil=>rename_i z; rw [z] at hm; exact absurd hm (by decide +kernel)
         | cons a t=>simp at hl ⊢; omega
       · omega
 · rintro ρ ⟨b2,b3,st,rfl,hs,_⟩
   rw [Kw,hb] at hs
   cases hs
   exact hq
abbrev q_:List Str:=["program","firsts","place","row"]
theorem iA:aE q_ ["program"] (ak d9):=⟨rfl,rfl,rfl,by decide +kernel,rfl,by decide +kernel,by decide +kernel⟩
theorem oU {f:Addr} {fd:FuncData} (D:Df K mg "first_defs" d9 ["program"] f fd) (M:ER w K mg):bX P w K mg base "first_defs" ["program"] 1 (bR K 1 BP):=by
 refine D.gA (gN D.F iA rfl fun bZ A outer s H E Ox hr ts q hG=>?_)
 have nd:=iA.nd
 have hu:=bP.gg hr
 have np:∀ {i:Nat},aT ⟨H,[],Ox⟩ i:=kK
 refine ⟨_,(ae (e8 (i:=1) nd rfl (Or.inl rfl) (VP.vx Es) np)
   (ae (cU uO rfl (jc (by rfl) M.enumerate (ai 0)) (gd (n:=2) rfl (br (aI (i:=2) nd rfl (Or.inl rfl) np) (br (aI (i:=3) nd rfl (Or.inl rfl) np) d4)))
     (af (aQ (bQ hu (VP.vr (bo (aa 3) (VP.vr ag))) (VP.vr ar))
       (af (aW (EO 1 (VP.ve (bo (aa 3) (VP.vr ag))) (ai 2))))
       ay)))
   (af (aw (i7 1 np))))),fun _=>?_⟩
 obtain ⟨rs,rfl,hn,hq⟩:=hG
 refine fN (fun i ρ=>∃ b2 b3,ρ=[some (.lst (rs.map aN),false),some (Jn (bG rs i),true),b2,b3]) ⟨_,_,rfl⟩ ?_ ?_
 · rintro i r ρ hr ⟨b2,b3,rfl⟩
   have hi:=(h9.mp hr).1
   have hlen:((bG rs i).map fun p=>T.int (p.2:Int)).length < 16777216:=by
    rw [bU]; have:=m_ rs i; omega
   have es:bG rs (i+1)=Jm (bG rs i) i r:=by simp only [bG,hr]
   cases r with
   | df g ps =>
     refine ⟨rfl,rfl,_,aG (j:=0) rfl,?_⟩
     refine ⟨_,aG (j:=1) rfl,hlen,?_⟩
     rw [es]
     simp only [Jm]
     rw [vV]
     cases ha:t4 (bG rs i) g with
     | some j=>exact ⟨_,_,rfl⟩
     | none =>
       show ∃ b2 b3,_=[_,some (Jn (bG rs i ++ [(g,i)]),true),b2,b3]
       have ef:Jn (bG rs i ++ [(g,i)]) = .dk (((bG rs i).map fun p=>(Sum.inr p.1:Key)) ++ [Sum.inr g]) (((bG rs i).map fun p=>T.int (p.2:Int)) ++ [T.int (i:Int)]):=by
        simp only [Jn,qd,fu,FH]
       rw [ef]
       exact ⟨_,_,rfl⟩
   | _ =>
     refine ⟨rfl,rfl,_,aG (j:=0) rfl,?_⟩
     rw [es]
     exact ⟨_,_,rfl⟩
 · rintro ρ ⟨b2,b3,rfl⟩
   exact hq
abbrev vX:List Str:=["program","firsts","place","row","first"]
theorem kQ:aE vX ["program","firsts","place"] (ak gm):=⟨rfl,rfl,rfl,by decide +kernel,rfl,by decide +kernel,by decide +kernel⟩
theorem uc {f:Addr} {fd:FuncData} (D:Df K mg "may_call" gm ["program","firsts","place"] f fd) (M:ER w K mg):bX P w K mg base "may_call" ["program","firsts","place"] 1 (bR K 3 Gn):=by
 refine D.gA (gN D.F kQ rfl fun bZ A outer s H E Ox hr ts q hG=>?_)
 have nd:=kQ.nd
 have hu:=bP.gg hr
 have np:∀ {i:Nat},aT ⟨H,[],Ox⟩ i:=kK
 have zT:=Gi hu
 refine ⟨_,(ae (aS (i:=3) nd rfl (Or.inl rfl) (VP.vx (bo (aa 0) (aa 2))) np)
  (ae (aS (i:=4) nd rfl (Or.inl rfl) (VP.vx (IU zT (aa 1) (VP.vr (bo (aa 3) (VP.vr ag))) ⟨rfl,rfl,rfl,rfl⟩)) np)
  (ae (aQ (VW.vc (fE (A0 (aa 4) (VP.vr vb)) (eD (ir (aa 4) (aa 2)))))
    (af (aw (VP.vx fD)))
    ay)
  (af (aw (VP.vx (i5 hu (VP.vr (ax az aB (by rfl) M.len h_ (aj (VP.vr (bo (VP.vr (bo (aa 0) (aa 4))) (VP.vr ag))) ao))) (VP.vr (ax az aB (by rfl) M.len h_ (aj (VP.vr (bo (aa 3) (VP.vr ag))) ao)))))))))),fun _=>?_⟩
 obtain ⟨rs,l,i,x,g,as,j,ps,rfl,hi,ha,KP,hj,hl,hq⟩:=hG
 refine ⟨_,xJ hi,_,aG (j:=2) rfl,?_⟩
 have ex:=vV l g
 rw [ha] at ex
 dsimp only [Rt.t,Bi]
 rw [ex]
 refine d5 (c:=decide ((j:Int) < (i:Int))) (decide_eq_false (by omega)) ?_
 refine ⟨_,xJ hj,_,aG (j:=2) rfl,_,aG (j:=3) rfl,?_⟩
 show q (.vw (.bl (decide (((ps.map T.str).length:Int)=((as.map jg).length:Int)))))
 rw [bU,bU,decide_eq_true (by omega)]
 exact hq
abbrev oV:List Str:=["program","firsts","place","row"]
theorem gY:aE oV ["program"] (ak dN):=⟨rfl,rfl,rfl,by decide +kernel,rfl,by decide +kernel,by decide +kernel⟩
theorem nA {f:Addr} {fd:FuncData} (D:Df K mg "check_calls" dN ["program"] f fd) (M:ER w K mg) (ra:bX P w K mg base "first_defs" ["program"] 1 (bR K 1 BP)) (vY:bX P w K mg base "may_call" ["program","firsts","place"] 1 (bR K 3 Gn)):bX P w K mg base "check_calls" ["program"] 3 (bR K 1 xI):=by
 obtain ⟨EV,CQ,rb,rf,rg,rh⟩:=ra
 obtain ⟨Jp,Gq,vZ,v3,v5,v7⟩:=vY
 refine D.gA (gN D.F gY rfl fun bZ A outer s H E Ox hr ts q hG=>?_)
 have nd:=gY.nd
 have hu:=bP.gg hr
 have np:∀ {i:Nat},aT ⟨H,[],Ox⟩ i:=kK
 have zT:=Gi hu
 refine ⟨_,(ae (aS (i:=1) nd rfl (Or.inl rfl) (VP.vx (aD rh (hr.mono (by decide)) (by rfl) rb rf rg (ab (ai 0) ah))) np)
   (af (cU uO rfl (jc (by rfl) M.enumerate (ai 0)) (gd (n:=2) rfl (br (aI (i:=2) nd rfl (Or.inl rfl) np) (br (aI (i:=3) nd rfl (Or.inl rfl) np) d4)))
     (ae (aQ (VW.vc (dY (bQ hu (VP.vr (bo (aa 3) (VP.vr ag))) (VP.vr ar)) (c9 (gK hu (VP.vr (IT zT (aa 1) (VP.vr (bo (aa 3) (VP.vr ag))))) (aa 2)))))
       (af gX)
       ay)
     (af (aQ (VW.vc (dY (bQ hu (VP.vr (bo (aa 3) (VP.vr ag))) (VP.vr ar)) (c9 (cu (bV (aD v7 (hr.mono (by decide)) (by rfl) vZ v3 v5 (ab (ai 0) (ab (ai 1) (ab (ai 2) ah)))))))))
       (af gX)
       ay)))))),fun _=>?_⟩
 obtain ⟨rs,rfl,hn,hd,hq⟩:=hG
 refine ⟨rfl,rs,rfl,hn,?_⟩
 refine fN (fun i ρ=>∃ b2 b3,ρ=[some (.lst (rs.map aN),false),some (Jn (bG rs rs.length),false),b2,b3]) ⟨_,_,rfl⟩ ?_ ?_
 · rintro i r ρ hr ⟨b2,b3,rfl⟩
   cases r with
   | df g ps =>
     refine ⟨rfl,rfl,_,aG (j:=0) rfl,_,aG (j:=1) rfl,?_⟩
     have ex:=vV (bG rs rs.length) g
     rw [hd.first hr] at ex
     exact ⟨_,ex,d5 (c:=!decide ((i:Int)=(i:Int))) (by simp) ⟨_,aG (j:=0) rfl,_,_,rfl⟩⟩
   | call x g as =>
     obtain ⟨j,ps,KP,hj,hl⟩:=hd.ca i x g as hr
     refine ⟨rfl,rfl,_,aG (j:=0) rfl,_,aG (j:=0) rfl,rfl,rs,_,i,x,g,as,j,ps,rfl,hr,hd.first hj,by omega,hj,hl,?_⟩
     exact ⟨_,_,rfl⟩
   | _=>exact ⟨rfl,rfl,_,aG (j:=0) rfl,_,aG (j:=0) rfl,_,_,rfl⟩
 · rintro ρ ⟨b2,b3,rfl⟩
   exact hq
abbrev jx:List Str:=["rows","program"]
theorem iB:aE jx ["rows"] (ak dm):=⟨rfl,rfl,rfl,by decide +kernel,rfl,by decide +kernel,by decide +kernel⟩
theorem oW {f:Addr} {fd:FuncData} (D:Df K mg "program_of" dm ["rows"] f fd) (M:ER w K mg) (rj:bX P w K mg base "check_rows" ["program"] 6 (bR K 1 BO)) (nB:bX P w K mg base "check_blocks" ["program"] 3 (bR K 1 t6)) (oX:bX P w K mg base "check_calls" ["program"] 3 (bR K 1 xI)):bX P w K mg base "program_of" ["rows"] 7 (bR K 1 ju):=by
 obtain ⟨EW,CS,rl,rm,rn,rp⟩:=rj
 obtain ⟨BR,zY,nC,nD,nE,nF⟩:=nB
 obtain ⟨CT,BS,oY,oZ,o4,o5⟩:=oX
 refine D.gA (gN D.F iB rfl fun bZ A outer s H E Ox hr ts q hG=>?_)
 have nd:=iB.nd
 have np:∀ {i:Nat},aT ⟨H,[],Ox⟩ i:=kK
 obtain ⟨tM,mM⟩:=M.yW
 have ud:∀ {pos},VP (ib jN P w K mg base jx "program_of" (ak dm) f bZ A outer s H E).r0 ⟨H,[],Ox⟩ (.Name "MOST_ROWS" pos) (fC (.int 60)):=dI (by rfl) mM (v:=.int 60) ⟨_,rfl⟩ fun _ _=>bD
 refine ⟨_,(ae (e8 (i:=1) nd rfl (Or.inl rfl) (VP.vx (b_ iZ mh (by rfl) M.list vm (aj (aa 0) ao))) np)
  (ae (aQ (sI (VP.vr (ax az aB (by rfl) M.len h_ (aj (aa 1) ao))) (VP.vr ud))
    (af gX)
    ay)
  (ae (aW (VP.vx (gL rp (hr.mono (by decide)) (by rfl) rl rm rn (aj (aa 1) ao))))
  (ae (aW (VP.vx (gL nF (hr.mono (by decide)) (by rfl) nC nD nE (aj (aa 1) ao))))
  (ae (aW (VP.vx (gL o5 (hr.mono (by decide)) (by rfl) oY oZ o4 (aj (aa 1) ao))))
  (af (aw (i7 1 np)))))))),fun _=>?_⟩
 obtain ⟨rs,rfl,hA,hq⟩:=hG
 have hn:=hA.n
 have hl:((rs.map aN).length:Int)=(rs.length:Int):=by rw [bU]
 refine d5 (c:=decide ((60:Int) < ((rs.map aN).length:Int))) (decide_eq_false (by omega)) ?_
 exact ⟨rfl,rs,rfl,hA.g,rfl,rfl,rs,rfl,hA.n,hA.b,rfl,rfl,rs,rfl,hA.n,hA.d,rfl,hq⟩
end
end cD
namespace K9
open PySem Gen Builtin Builtin.Str xi
open PyProof.Rows (split_pos)
def gl (c:Nat):List (List Nat)→List Nat
 | []=>[]
 | [a]=>a
 | a :: b :: l=>a ++ c :: gl c (b :: l)
theorem xK {c:Nat}:∀ {a b x y:List Nat},c∉a→c∉b→a ++ c :: x=b ++ c :: y→a=b∧x=y
 | [],[],_,_,_,_,e=>by injection e with _ e; exact ⟨rfl,e⟩
 | [],d :: b,_,_,_,hb,e=>by injection e with e _; exact absurd e fun z=>hb (z▸eW)
 | d :: a,[],_,_,ha,_,e=>by injection e with e _; exact absurd e.symm fun z=>ha (z▸eW)
 | d :: a,d' :: b,x,y,ha,hb,e=>by
   injection e with e1 e2
   obtain ⟨h1,h2⟩:=xK (fun z=>ha (g9 _ z)) (fun z=>hb (g9 _ z)) e2
   exact ⟨by rw [e1,h1],h2⟩
theorem BU {c:Nat}:∀ {l m:List (List Nat)},l≠[]→m≠[]→(∀ a∈l,c∉a)→(∀ a∈m,c∉a)→gl c l=gl c m→l=m
 | [],_,h,_,_,_,_=>absurd rfl h
 | _ :: _,[],_,h,_,_,_=>absurd rfl h
 | [a],[b],_,_,_,_,e=>by rw [show a=b from e]
 | [a],b :: b' :: m,_,_,h1,_,e=>by
   exfalso
   refine h1 a eW ?_
   rw [show a=b ++ c :: gl c (b' :: m) from e]
   simp
 | a :: a' :: l,[b],_,_,_,h2,e=>by
   exfalso
   refine h2 b eW ?_
   rw [← show a ++ c :: gl c (a' :: l)=b from e]
   simp
 | a :: a' :: l,b :: b' :: m,_,_,h1,h2,e=>by
   obtain ⟨e1,e2⟩:=xK (h1 a eW) (h2 b eW) (show a ++ c :: gl c (a' :: l)=b ++ c :: gl c (b' :: m) from e)
   rw [e1,BU (by simp) (by simp) (fun x hx=>h1 x (g9 _ hx)) (fun x hx=>h2 x (g9 _ hx)) e2]
theorem gn (a b:Str):(a ++ b).cps.toList=a.cps.toList ++ b.cps.toList:=by
 show (a.cps ++ b.cps).toList=_
 rw [Array.toList_append]
theorem lQ (c:Nat):∀ l:List Str,(Str.join ⟨#[c]⟩ l).cps.toList=gl c (l.map (·.cps.toList))
 | []=>rfl
 | [a]=>rfl
 | a :: b :: l=>by
   show (a ++ ⟨#[c]⟩ ++ Str.join ⟨#[c]⟩ (b :: l)).cps.toList=_
   rw [gn,gn,lQ c (b :: l)]
   simp [gl]
theorem jy {a b:Str} (h:a.cps.toList=b.cps.toList):a=b:=by
 obtain ⟨⟨a⟩⟩:=a
 obtain ⟨⟨b⟩⟩:=b
 cases h
 rfl
theorem nG {c:Nat} {ws:List Str} (hn:ws≠[]) (h:∀ w∈ws,c∉w.cps.toList):Txt.split (Txt.join ⟨#[c]⟩ ws) ⟨#[c]⟩=ws:=by
 have e1:Txt.join ⟨#[c]⟩ ws=Str.join ⟨#[c]⟩ ws:=StrLaws.glued_eq_join _ _
 rw [e1]
 generalize ex:Str.join ⟨#[c]⟩ ws=x
 have e2:=StrLaws.join_split x ⟨#[c]⟩
 have hf:=StrLaws.split_free x c
 have hp:=split_pos x ⟨#[c]⟩
 have e3:gl c ((Txt.split x ⟨#[c]⟩).map (·.cps.toList))=gl c (ws.map (·.cps.toList)):=by rw [← lQ,← lQ,e2,ex]
 have e4:=BU (fun z=>by rw [List.map_eq_nil_iff.mp z] at hp; cases hp) (fun z=>hn (List.map_eq_nil_iff.mp z)) (fun a ha=>by
  obtain ⟨p,hp,rfl⟩:=iV.mp ha
  exact hf p hp) (fun a ha=>by
  obtain ⟨p,hp,rfl⟩:=iV.mp ha
  exact h p hp) e3
 exact List.map_inj_right (fun a b=>jy) |>.mp e4
theorem jz (c:Nat) (x:Str):Txt.startswith x ⟨#[c]⟩=decide (x.cps.toList.head?=some c):=by
 obtain ⟨⟨l⟩⟩:=x
 unfold Txt.startswith subAt
 cases l with
 | nil=>rfl
 | cons d r =>
   have e1:(Array.extract ({ toList:=d :: r }:Array Nat) 0 (0+(Str.mk #[c]).length) == (Str.mk #[c]).cps)=decide (d=c):=by
    rw [Lg,beq_iff_eq,decide_eq_true_eq]
    constructor
    · intro q
      have q2:=congrArg (fun a=>a[0]?) q
      simp [Str.length] at q2
      exact q2
    · intro q
      subst q
      apply Array.ext'
      simp [Str.length]
   have e2:decide (0+(Str.mk #[c]).length≤(Str.mk { toList:=d :: r }).length)=true:=by
    apply decide_eq_true
    show 0+1≤(({ toList:=d :: r }:Array Nat)).size
    simp
   show (decide (0+(Str.mk #[c]).length≤(Str.mk { toList:=d :: r }).length) && (Array.extract ({ toList:=d :: r }:Array Nat) 0 (0+(Str.mk #[c]).length) == (Str.mk #[c]).cps))=_
   rw [e1,e2,uI]
   simp
theorem Jq (c:Nat) (x:Str):Txt.slice (⟨#[c]⟩ ++ x) (some 1) none=x:=by
 obtain ⟨⟨l⟩⟩:=x
 have hl:(Str.length (Str.mk #[c] ++ Str.mk { toList:=l }))=l.length+1:=by
  show (#[c] ++ ({ toList:=l }:Array Nat)).size=_
  simp
 have hi:strSliceIndices (some 1) none 1 (l.length+1)=(List.range l.length).map (fun k=>k+1):=by
  unfold strSliceIndices sliceRange
  simp only [show (1:Int) > 0 by decide,if_true]
  have e0:max 0 (min (if (1:Int) < 0 then 1+((l.length+1:Nat):Int) else 1) ((l.length+1:Nat):Int))=1:=by
   rw [if_neg (by decide)]; omega
  rw [e0]
  by_cases hn:l.length=0
  · rw [hn]; rfl
  · have e1:((1:Int) < ((l.length+1:Nat):Int)):=by omega
    rw [if_pos e1]
    have e2:((((l.length+1:Nat):Int) - 1+1 - 1) / 1).toNat=l.length:=by
     rw [Int.ediv_one]; omega
    rw [e2]
    apply List.map_congr_left
    intro k hk
    omega
 unfold Txt.slice
 rw [hl,hi]
 have iE:¬ (((1:Int) == 1 && (List.map (fun k=>k+1) (List.range l.length)).length == l.length+1)=true):=by
  rw [il,bU,CB]
  intro q
  have:=beq_iff_eq.mp q.2
  omega
 rw [if_neg iE]
 congr 1
 apply Array.ext'
 rw [List.toList_toArray]
 show List.filterMap (fun i=>(#[c] ++ ({ toList:=l }:Array Nat))[i]?) (List.map (fun k=>k+1) (List.range l.length))=l
 rw [Ld]
 have e:∀ k,((fun i=>(#[c] ++ ({ toList:=l }:Array Nat))[i]?) ∘ fun k=>k+1) k=l[k]?:=fun k=>by
  show (#[c] ++ ({ toList:=l }:Array Nat))[k+1]?=l[k]?
  rw [← PV]
  simp
 rw [show ((fun i=>(#[c] ++ ({ toList:=l }:Array Nat))[i]?) ∘ fun k=>k+1)=fun k=>l[k]? from funext e]
 clear e iE hi hl
 induction l with
 | nil=>rfl
 | cons a r ih =>
   rw [wO,QV,lx]
   simp only [K',Ld]
   congr 1
def jA (m:Nat):List Nat:=(Nat.toDigits 10 m).map Char.toNat
def c5 (i:Int):Str:=toString i
theorem jB (m:Nat):∀ c∈jA m,48≤c∧c≤57:=fun c hc=>by
 obtain ⟨ch,zN,rfl⟩:=iV.mp hc
 exact PyProof.Rows.digit_range (Nat.isDigit_of_mem_toDigits (by decide) (by decide) zN)
theorem y7 {m:Nat} (h:¬ m < 10):jA m=jA (m / 10) ++ jA (m % 10):=by
 have hm:m % 10 < 10:=Nat.mod_lt m (by decide)
 have t:Nat.toDigits 10 (m / 10) ++ Nat.toDigits 10 (m % 10)=Nat.toDigits 10 (10 * (m / 10)+m % 10):=Nat.toDigits_append_toDigits (by decide) (by omega) hm
 unfold jA
 rw [← qd,t,Nat.div_add_mod]
theorem pW {m:Nat} (h:m < 10):jA m=[48+m]:=by
 unfold jA
 rw [Nat.toDigits_of_lt_base h]
 match m,h with
 | 0,_=>rfl
 | 1,_=>rfl
 | 2,_=>rfl
 | 3,_=>rfl
 | 4,_=>rfl
 | 5,_=>rfl
 | 6,_=>rfl
 | 7,_=>rfl
 | 8,_=>rfl
 | 9,_=>rfl
theorem nH (m:Nat):∃ c r,jA m=c :: r∧(m≠0→c≠48):=by
 induction m using Nat.strongRecOn with
 | _ m ih =>
   by_cases h:m < 10
   · exact ⟨48+m,[],pW h,fun z=>by omega⟩
   · obtain ⟨c,r,e,hc⟩:=ih (m / 10) (by omega)
     exact ⟨c,r ++ jA (m % 10),by rw [y7 h,e]; rfl,fun _=>hc (by omega)⟩
theorem xM {m:Nat} (h:m < 10 ^ 31):(jA m).length≤31:=by
 have e:=(Nat.length_repr_le_iff (n:=m) (by decide:0 < 31)).mpr h
 rw [← String.length_toList,Nat.toList_repr] at e
 unfold jA
 rw [bU]
 exact e
theorem gp (m:Nat):(c5 (m:Int)).cps.toList=jA m:=PySem.W.KIN.signs_num m
theorem nI:(("-" : String):Str)=⟨#[45]⟩:=by decide +kernel
theorem EX (m:Nat):c5 (-((m+1:Nat):Int))=⟨#[45]⟩ ++ c5 ((m+1:Nat):Int):=by
 have e:(toString (-((m+1:Nat):Int)):String)="-" ++ toString ((m+1:Nat):Int):=rfl
 refine jy ?_
 rw [gn,gp]
 unfold c5
 rw [e]
 show (Str.ofString ("-" ++ toString ((m+1:Nat):Int))).cps.toList=_
 rw [← gp]
 unfold c5
 rw [PyProof.Rows.signs_ofString,PyProof.Rows.signs_ofString,String.toList_append,qd]
 rfl
theorem nJ {i:Int} (h1 : -1000000000000000000000000000000≤i) (h2:i < 1000000000000000000000000000000):i.natAbs.log2 < 1920:=by
 by_cases h:i.natAbs=0
 · rw [h]; decide
 · have e:(2:Nat) ^ 100=1267650600228229401496703205376:=by decide
   have a:i.natAbs < 2 ^ 100:=by omega
   have:i.natAbs < 2 ^ 1920:=n_ a (Nat.pow_le_pow_right (by decide) (by decide))
   exact (Nat.log2_lt h).mpr this
def o6:Str:="0123456789"
def xN (c:Nat):Bool:=!(occurrences o6 ⟨#[c]⟩ 0 o6.length 1).isEmpty
theorem xO {c:Nat} (h:48≤c∧c≤57):xN c=true:=by
 obtain ⟨h1,h2⟩:=h
 have:∀ k,k < 10→xN (48+k)=true:=by decide +kernel
 have:=this (c - 48) (by omega)
 rwa [show 48+(c - 48)=c by omega] at this
theorem Jr (c:Nat):xN c=decide (c∈o6.cps.toList):=StrLaws.found_one o6 c
theorem Js (c:Nat):ym c=decide (c∈ba.cps.toList):=StrLaws.found_one ba c
theorem EY:ba.cps.toList.all (fun c=>decide (97≤c) && decide (c≤122))=true:=by decide +kernel
theorem EZ:o6.cps.toList.all (fun c=>decide (48≤c) && decide (c≤57))=true:=by decide +kernel
theorem rq {c:Nat} (h:ym c=true):97≤c∧c≤122:=by
 rw [Js] at h
 have:=uN.mp EY c (of_decide_eq_true h)
 simpa using this
theorem E1 {c:Nat} (h:xN c=true):48≤c∧c≤57:=by
 rw [Jr] at h
 have:=uN.mp EZ c (of_decide_eq_true h)
 simpa using this
theorem BV {c:Nat} (h:¬ (48≤c∧c≤57)):xN c=false:=by
 cases q:xN c with
 | false=>rfl
 | true=>exact absurd (E1 q) h
def k_ (x:Str):Str:=if Txt.startswith x "-" = true then Txt.slice x (some 1) none else x
def zZ (x:Str):Bool:=!(decide (k_ x="") || decide ((32:Int) < (x.length:Int))) && ((k_ x).cps.toList.all xN && (decide (x="0") || !Txt.startswith (k_ x) "0"))
theorem kn:(("0" : String):Str)=⟨#[48]⟩:=by decide +kernel
theorem E2:(("" : String):Str)=⟨#[]⟩:=by decide +kernel
theorem ue {x:Str} {c:Nat} {r:List Nat} (e:x.cps.toList=c :: r) (h1:c≠45) (h2:xN c=false):zZ x=false:=by
 have hs:Txt.startswith x "-" = false:=by
  rw [nI,jz,e]
  exact decide_eq_false fun z=>h1 (Option.some.inj z)
 have hf:k_ x=x:=by unfold k_; rw [hs,if_neg iS]
 unfold zZ
 rw [hf,e,r8,h2,z9,z9,Bool.and_false]
theorem jC {x:Str}:x=""↔x.cps.toList=[]:=by
 rw [E2]
 constructor
 · rintro rfl; rfl
 · exact fun h=>jy h
theorem Jt {x:Str} {m:Nat} (e:x.cps.toList=jA m) (hm:m < 10 ^ 31):zZ x=true:=by
 obtain ⟨c,r,ed,hc⟩:=nH m
 have hd:=jB m
 have iq:=hd c (by rw [ed]; exact eW)
 have hs:Txt.startswith x "-" = false:=by
  rw [nI,jz,e,ed]
  exact decide_eq_false fun z=>by have:=Option.some.inj z; omega
 have hf:k_ x=x:=by unfold k_; rw [hs,if_neg iS]
 have hl:x.length≤31:=by
  have:=xM hm
  rw [← e] at this
  simpa [Str.length] using this
 unfold zZ
 rw [hf]
 have h1:decide (x="")=false:=decide_eq_false fun z=>by rw [jC.mp z,ed] at e; cases e
 have h2:decide ((32:Int) < (x.length:Int))=false:=decide_eq_false (by omega)
 have h3:x.cps.toList.all xN=true:=by rw [e]; exact uN.mpr fun c hc=>xO (hd c hc)
 rw [h1,h2,h3]
 by_cases z:m=0
 · have:x="0":=by rw [kn]; refine jy ?_; rw [e,z]; exact pW (by decide)
   rw [decide_eq_true this]; rfl
 · have:Txt.startswith x "0" = false:=by
    rw [kn,jz,e,ed]
    exact decide_eq_false fun q=>hc z (Option.some.inj q)
   rw [this]
   cases decide (x="0") <;> rfl
theorem rz {i:Int} (h1 : -1000000000000000000000000000000≤i) (h2:i < 1000000000000000000000000000000):zZ (c5 i)=true∧PySem.intText? (c5 i)=some i∧(c5 i).length≤32∧∀ c∈(c5 i).cps.toList,45≤c∧c≤57:=by
 have nat:∀ m:Nat,m < 10 ^ 31→zZ (c5 (m:Int))=true∧PySem.intText? (c5 (m:Int))=some (m:Int)∧(c5 (m:Int)).length≤31∧∀ c∈(c5 (m:Int)).cps.toList,48≤c∧c≤57:=fun m hm=>by
  have e:=gp m
  have hl:(c5 (m:Int)).length≤31:=by
   have:=xM hm
   rw [← e] at this
   simpa [Str.length] using this
  obtain ⟨c,r,ed,_⟩:=nH m
  refine ⟨Jt e hm,?_,hl,fun c hc=>jB m c (e▸hc)⟩
  have:=PySem.intText_digits (x:=c5 (m:Int)) (fun c hc=>jB m c (e▸hc)) (by rw [e,ed]; simp) (by omega)
  rw [this,e]
  show some ((PySem.NumText.digitsVal ((Nat.toDigits 10 m).map Char.toNat):Nat):Int)=_
  rw [PySem.W.KIN.val_back]
 have YC:(10:Nat) ^ 31=10000000000000000000000000000000:=by decide
 by_cases h0:0≤i
 · obtain ⟨m,rfl⟩:=GK h0
   obtain ⟨a,b,c,d⟩:=nat m (by omega)
   exact ⟨a,b,by omega,fun x hx=>by have:=d x hx; omega⟩
 · obtain ⟨m,rfl⟩:∃ m:Nat,i = -((m+1:Nat):Int):=⟨(-i).toNat - 1,by omega⟩
   obtain ⟨a,b,c,d⟩:=nat (m+1) (by omega)
   have e:=EX m
   have es:(c5 (-((m+1:Nat):Int))).cps.toList=45 :: jA (m+1):=by rw [e,gn,gp]; rfl
   have el:(c5 (-((m+1:Nat):Int))).length=(c5 ((m+1:Nat):Int)).length+1:=by
    have h1:=congrArg List.length es
    have h2:=congrArg List.length (gp (m+1))
    simp only [Fw,wO] at h1 h2
    simp only [Str.length]
    omega
   obtain ⟨c0,r,ed,hc⟩:=nH (m+1)
   refine ⟨?_,?_,by omega,fun x hx=>?_⟩
   · have hs:Txt.startswith (c5 (-((m+1:Nat):Int))) "-" = true:=by rw [nI,jz,es]; rfl
     have hf:k_ (c5 (-((m+1:Nat):Int)))=c5 ((m+1:Nat):Int):=by
      unfold k_
      rw [if_pos hs,e,Jq]
     unfold zZ
     rw [hf]
     have h1:decide (c5 ((m+1:Nat):Int)="")=false:=decide_eq_false fun z=>by have:=jC.mp z; rw [gp,ed] at this; cases this
     have h2:decide ((32:Int) < ((c5 (-((m+1:Nat):Int))).length:Int))=false:=decide_eq_false (by omega)
     have h3:(c5 ((m+1:Nat):Int)).cps.toList.all xN=true:=uN.mpr fun c hc=>xO (d c hc)
     have h4:Txt.startswith (c5 ((m+1:Nat):Int)) "0" = false:=by
      rw [kn,jz,gp,ed]
      exact decide_eq_false fun q=>hc (by omega) (Option.some.inj q)
     rw [h1,h2,h3,h4]
     cases decide (c5 (-((m+1:Nat):Int))="0") <;> rfl
   · have:=PySem.intText_neg (x:=c5 (-((m+1:Nat):Int))) es (jB (m+1)) (by rw [ed]; simp) (by omega)
     rw [this]
     show some (-((PySem.NumText.digitsVal ((Nat.toDigits 10 (m+1)).map Char.toNat):Nat):Int))=_
     rw [PySem.W.KIN.val_back]
   · rw [es] at hx
     rcases cn.mp hx with rfl | hx
     · omega
     · have:=jB (m+1) x hx; omega
inductive Pt where
 | nm (x:Str)
 | nu (i:Int)
 | fd (x:Str)
def Pt.s:Pt→Str
 | .nm x=>x
 | .nu i=>c5 i
 | .fd x=>("." : String) ++ x
def Pt.t:Pt→VT.T
 | .nm x=>.str x
 | .nu i=>.int i
 | .fd x=>.str (("." : String) ++ x)
def Pt.ok:Pt→Prop
 | .nm x=>bq x=true
 | .nu i=>-1000000000000000000000000000000≤i∧i < 1000000000000000000000000000000
 | .fd x=>bq x=true
theorem pX {x:Str} (h:bq x=true):∃ c r,x.cps.toList=c :: r∧ym c=true:=by
 have ha:=d0 h
 unfold bq at h
 rw [il] at h
 have h1:=of_decide_eq_true h.1
 cases e:x.cps.toList with
 | nil =>
   have:x.length=0:=by have:=congrArg List.length e; simpa [Str.length] using this
   omega
 | cons c r =>
   rw [e,r8,il] at ha
   exact ⟨c,r,rfl,ha.1⟩
theorem ko {x:Str} (h:bq x=true):x.length≤8:=by
 unfold bq at h
 simp only [il,decide_eq_true_eq] at h
 omega
theorem E3 {x:Str} (h:bq x=true):zZ x=false:=by
 obtain ⟨c,r,e,hc⟩:=pX h
 have:=rq hc
 exact ue e (by omega) (BV (by omega))
theorem rA (x:Str):((("." : String):Str) ++ x).cps.toList=46 :: x.cps.toList:=by rw [qo,gn]; rfl
theorem Ju (x:Str):zZ ((("." : String):Str) ++ x)=false:=ue (rA x) (by decide) (BV (by decide))
theorem Pt.len {p:Pt} (h:p.ok):p.s.length≤32:=by
 cases p with
 | nm x=>have:=ko h; show x.length≤32; omega
 | nu i=>exact (rz h.1 h.2).2.2.1
 | fd x=>have:=ko h; show (((("." : String):Str) ++ x)).length≤32; rw [xj]; omega
theorem Pt.free {p:Pt} (h:p.ok):∀ c∈p.s.cps.toList,45≤c:=by
 cases p with
 | nm x=>intro c hc; have:=rq (uN.mp (d0 h) c hc); omega
 | nu i=>intro c hc; exact ((rz h.1 h.2).2.2.2 c hc).1
 | fd x =>
   intro c hc
   rw [show (Pt.fd x).s=(("." : String):Str) ++ x from rfl,rA] at hc
   rcases cn.mp hc with rfl | hc
   · decide
   · have:=rq (uN.mp (d0 h) c hc); omega
theorem Pt.ne {p:Pt} (h:p.ok):p.s.cps.toList≠[]:=by
 cases p with
 | nm x=>obtain ⟨c,r,e,_⟩:=pX h; show x.cps.toList≠[]; rw [e]; simp
 | nu i =>
   intro e
   have:=(rz h.1 h.2).1
   have z:c5 i="":=jC.mpr e
   rw [z] at this
   exact absurd this (by decide +kernel)
 | fd x=>rw [show (Pt.fd x).s=(("." : String):Str) ++ x from rfl,rA]; simp
def v8:lL→Pt
 | .nm x=>.nm x
 | .nu i=>.nu i
def Qy:Ky→Pt
 | .fld x=>.fd x
 | .op o=>v8 o
theorem rB (o:lL):(v8 o).t=jg o:=by cases o <;> rfl
theorem Nl (k:Ky):(Qy k).t=zW k:=by cases k with | fld x=>rfl | op o=>exact rB o
def bO:Rw→List Pt
 | .df f ps=>.nm f :: ps.map .nm
 | .give a=>[v8 a]
 | .put x a=>[.nm x,v8 a]
 | .xB x a op b=>[.nm x,v8 a,.nm op,v8 b]
 | .new x=>[.nm x]
 | .get x r k=>[.nm x,.nm r,Qy k]
 | .set r k a=>[.nm r,Qy k,v8 a]
 | .call x f as=>.nm x :: .nm f :: as.map v8
 | .fail x=>[.nm x]
 | .CO a=>[v8 a]
 | .M6=>[]
 | .uL a=>[v8 a]
 | .fin=>[]
 | .skip=>[]
def c6 (r:Rw):List Pt:=.nm (wd r) :: bO r
def cm (r:Rw):Str:=Txt.join " " ((c6 r).map Pt.s)
theorem xP (r:Rw):bq (wd r)=true:=by cases r <;> (simp only [wd]; decide +kernel)
theorem jD {ys:List Str} (hn:∀ y∈ys,bq y=true) {o:lL} (h:cv ys o):(v8 o).ok:=by
 cases o with
 | nm x=>exact hn x h
 | nu i=>exact h
theorem Gr {ys:List Str} (hn:∀ y∈ys,bq y=true) {k:Ky} (h:vF ys k):(Qy k).ok:=by
 cases k with
 | fld x=>exact hn x h
 | op o=>exact jD hn h
theorem y8 {op:Str} (h:op∈reckon):bq op=true:=by
 have:∀ o∈reckon,bq o=true:=by decide +kernel
 exact this op h
theorem BW {ys:List Str} (hn:∀ y∈ys,bq y=true) {r:Rw} (h:tT ys r):(∀ p∈c6 r,p.ok)∧(c6 r).length≤6:=by
 have key:(∀ p∈bO r,p.ok)∧(bO r).length≤5:=by
  cases r with
  | df f ps =>
    obtain ⟨h1,h2,_,h4⟩:=h
    refine ⟨fun p hp=>?_,by simp only [bO,wO,bU]; omega⟩
    rcases cn.mp hp with rfl | hp
    · exact hn f h1
    · obtain ⟨x,hx,rfl⟩:=iV.mp hp
      exact hn x (h4 x hx)
  | call x f as =>
    obtain ⟨h1,h2,h3,h4⟩:=h
    refine ⟨fun p hp=>?_,by simp only [bO,wO,bU]; omega⟩
    rcases cn.mp hp with rfl | hp
    · exact hn x h1
    · rcases cn.mp hp with rfl | hp
      · exact hn f h2
      · obtain ⟨o,ho,rfl⟩:=iV.mp hp
        exact jD hn (h4 o ho)
  | give a=>exact ⟨fun p hp=>by rw [r6.mp hp]; exact jD hn h,by simp [bO]⟩
  | CO a=>exact ⟨fun p hp=>by rw [r6.mp hp]; exact jD hn h,by simp [bO]⟩
  | uL a=>exact ⟨fun p hp=>by rw [r6.mp hp]; exact jD hn h,by simp [bO]⟩
  | new x=>exact ⟨fun p hp=>by rw [r6.mp hp]; exact hn x h,by simp [bO]⟩
  | fail x=>exact ⟨fun p hp=>by rw [r6.mp hp]; exact hn x h,by simp [bO]⟩
  | put x a =>
    refine ⟨fun p hp=>?_,by simp [bO]⟩
    simp only [bO,cn,dU,or_false] at hp
    rcases hp with rfl | rfl
    · exact hn x h.1
    · exact jD hn h.2
  | xB x a op b =>
    refine ⟨fun p hp=>?_,by simp [bO]⟩
    simp only [bO,cn,dU,or_false] at hp
    rcases hp with rfl | rfl | rfl | rfl
    · exact hn x h.1
    · exact jD hn h.2.1
    · exact y8 h.2.2.1
    · exact jD hn h.2.2.2
  | get x r k =>
    refine ⟨fun p hp=>?_,by simp [bO]⟩
    simp only [bO,cn,dU,or_false] at hp
    rcases hp with rfl | rfl | rfl
    · exact hn x h.1
    · exact hn r h.2.1
    · exact Gr hn h.2.2
  | set r k a =>
    refine ⟨fun p hp=>?_,by simp [bO]⟩
    simp only [bO,cn,dU,or_false] at hp
    rcases hp with rfl | rfl | rfl
    · exact hn r h.1
    · exact Gr hn h.2.1
    · exact jD hn h.2.2
  | _=>exact ⟨fun p hp=>(nomatch hp),by simp [bO]⟩
 refine ⟨fun p hp=>?_,by unfold c6; rw [wO]; omega⟩
 rcases cn.mp hp with rfl | hp
 · exact xP r
 · exact key.1 p hp
structure pY (r:Rw):Prop where
 ok:∀ p∈c6 r,p.ok
 len:(c6 r).length≤6
theorem BX {ys:List Str} (hn:∀ y∈ys,bq y=true) {r:Rw} (h:tT ys r):pY r:=⟨(BW hn h).1,(BW hn h).2⟩
theorem blank_eq:((" " : String):Str)=⟨#[32]⟩:=by decide +kernel
theorem rC:(("\n" : String):Str)=⟨#[10]⟩:=by decide +kernel
theorem v_ {r:Rw} (h:pY r):Txt.split (cm r) " " = (c6 r).map Pt.s:=by
 unfold cm
 rw [blank_eq]
 refine nG (by simp [c6]) fun w hw=>?_
 obtain ⟨p,hp,rfl⟩:=iV.mp hw
 intro z
 have:=Pt.free (h.ok p hp) 32 z
 omega
theorem BY {c:Nat}:∀ {l:List (List Nat)} {x:Nat},x∈gl c l→x=c∨∃ a∈l,x∈a
 | [],_,h=>nomatch h
 | [a],x,h=>.inr ⟨a,eW,h⟩
 | a :: b :: l,x,h=>by
   rcases gD.mp h with h | h
   · exact .inr ⟨a,eW,h⟩
   · rcases cn.mp h with h | h
     · exact .inl h
     · rcases BY h with h | ⟨y,hy,hx⟩
       · exact .inl h
       · exact .inr ⟨y,g9 _ hy,hx⟩
theorem gZ (c:Nat) (l:List Str):(Txt.join ⟨#[c]⟩ l).cps.toList=gl c (l.map (·.cps.toList)):=by
 rw [← lQ]
 exact congrArg (fun x:Str=>x.cps.toList) (StrLaws.glued_eq_join _ _)
theorem y9 {r:Rw} (h:pY r):10∉(cm r).cps.toList:=by
 unfold cm
 rw [blank_eq,gZ]
 intro z
 rcases BY z with z | ⟨a,ha,hx⟩
 · cases z
 · obtain ⟨s,hs,rfl⟩:=iV.mp ha
   obtain ⟨p,hp,rfl⟩:=iV.mp hs
   have:=Pt.free (h.ok p hp) 10 hx
   omega
def gz (rs:List Rw):Str:=Txt.join "\n" (rs.map cm)
theorem wa {rs:List Rw} (iE:rs≠[]) (h:∀ r∈rs,pY r):Txt.split (gz rs) "\n" = rs.map cm:=by
 unfold gz
 rw [rC]
 refine nG (by simpa using iE) fun w hw=>?_
 obtain ⟨r,hr,rfl⟩:=iV.mp hw
 exact y9 (h r hr)
theorem nK {α:Type} {f:α→Nat} {n:Nat}:∀ {l:List α},(∀ x∈l,f x≤n)→(l.map f).sum≤l.length * n
 | [],_=>ia _
 | x :: l,h=>by
   have ih:=nK fun y hy=>h y (g9 _ hy)
   have:=h x eW
   rw [fu,List.sum_cons,wO,Nat.add_mul,Nat.one_mul]
   omega
theorem nL (c:Nat) (l:List Str) {n:Nat} (h:∀ x∈l,x.length≤n):(Txt.join ⟨#[c]⟩ l).length≤l.length * n+l.length:=by
 have e:Txt.join ⟨#[c]⟩ l=Str.join ⟨#[c]⟩ l:=StrLaws.glued_eq_join _ _
 rw [e]
 have a:=StrLaws.join_length_le ⟨#[c]⟩ l
 have s:=nK (f:=fun x:Str=>x.length) h
 have b:(Str.mk #[c]).length=1:=rfl
 rw [b,Nat.mul_one] at a
 omega
theorem jE {r:Rw} (h:pY r):(cm r).length≤200:=by
 unfold cm
 rw [blank_eq]
 have:=nL 32 ((c6 r).map Pt.s) (n:=32) fun x hx=>by
  obtain ⟨p,hp,rfl⟩:=iV.mp hx
  exact Pt.len (h.ok p hp)
 rw [bU] at this
 have:=h.len
 omega
theorem text_len {rs:List Rw} (hl:rs.length≤60) (h:∀ r∈rs,pY r):(gz rs).length≤13000:=by
 unfold gz
 rw [rC]
 have:=nL 10 (rs.map cm) (n:=200) fun x hx=>by
  obtain ⟨r,hr,rfl⟩:=iV.mp hx
  exact jE (h r hr)
 rw [bU] at this
 omega
theorem y_ {r:Rw} (h:pY r):∃ c l,(cm r).cps.toList=c :: l:=by
 unfold cm
 rw [blank_eq,gZ]
 have hp:=Pt.ne (h.ok _ (show Pt.nm (wd r)∈c6 r from eW))
 cases e:(Pt.nm (wd r)).s.cps.toList with
 | nil=>exact absurd e hp
 | cons c l =>
   unfold c6
   rw [fu,fu,e]
   cases ((bO r).map Pt.s).map (·.cps.toList) with
   | nil=>exact ⟨c,l,rfl⟩
   | cons b m=>exact ⟨c,l ++ 32 :: gl 32 (b :: m),rfl⟩
theorem E4 {rs:List Rw} (iE:rs≠[]) (h:∀ r∈rs,pY r):gz rs≠"":=by
 intro z
 have z:=jC.mp z
 unfold gz at z
 rw [rC,gZ] at z
 cases rs with
 | nil=>exact iE rfl
 | cons r rs =>
   obtain ⟨c,l,e⟩:=y_ (h r eW)
   rw [fu,fu,e] at z
   cases q:(rs.map cm).map (·.cps.toList) with
   | nil=>rw [q] at z; cases z
   | cons b m=>rw [q] at z; cases z
theorem za (x:Str) (l:List Str) (y:Str):Txt.join " " (x :: (l ++ [y]))=Txt.join " " (x :: l) ++ " " ++ y:=by
 refine jy ?_
 rw [gn,gn,blank_eq,gZ,gZ]
 have key:∀ (l:List (List Nat)) (a b:List Nat),gl 32 (a :: (l ++ [b]))=gl 32 (a :: l) ++ [32] ++ b:=by
  intro l
  induction l with
  | nil=>intro a b; simp [gl]
  | cons c l ih =>
    intro a b
    show a ++ 32 :: gl 32 (c :: (l ++ [b]))=(a ++ 32 :: gl 32 (c :: l)) ++ [32] ++ b
    rw [ih]
    simp
 have:=key (l.map (·.cps.toList)) x.cps.toList y.cps.toList
 rw [fu,qd]
 exact this
def Jv (ts:List VT.T) (k:Option Nat):VT.T:=match k with
 | none=>.tup ts
 | some k=>.tup (ts.take k ++ [.tup (ts.drop k)])
def wb:Rw→Option Nat
 | .df _ _=>some 2
 | .call _ _ _=>some 3
 | _=>none
theorem uf (r:Rw):Jv ((c6 r).map Pt.t) (wb r)=aN r:=by
 cases r with
 | df f ps =>
   show VT.T.tup [.str "def",.str f,.tup ((ps.map Pt.nm).map Pt.t)]=_
   rw [x6]; rfl
 | call x f as =>
   show VT.T.tup [.str "call",.str x,.str f,.tup ((as.map v8).map Pt.t)] = .tup [.str "call",.str x,.str f,.tup (as.map jg)]
   rw [x6,show (Pt.t ∘ v8)=jg from funext rB]
 | give a=>show VT.T.tup [_,_]=_; rw [rB]; rfl
 | CO a=>show VT.T.tup [_,_]=_; rw [rB]; rfl
 | uL a=>show VT.T.tup [_,_]=_; rw [rB]; rfl
 | put x a=>show VT.T.tup [_,_,_]=_; rw [rB]; rfl
 | xB x a op b=>show VT.T.tup [_,_,_,_,_]=_; rw [rB,rB]; rfl
 | get x r k=>show VT.T.tup [_,_,_,_]=_; rw [Nl]; rfl
 | set r k a=>show VT.T.tup [_,_,_,_]=_; rw [Nl,rB]; rfl
 | _=>rfl
end K9
namespace VT
open PySem PySem.Spec PyProof.Rows L2
def Nm (f:Str):List Str→List Str
 | []=>[f]
 | n :: ns=>if n=f then n :: ns else n :: Nm f ns
def Nn {α:Type} (f:Str) (u:α):List Str→List α→List α
 | n :: ns,t :: ts=>if n=f then u :: ts else t :: Nn f u ns ts
 | _,_=>[u]
section
variable {K:PySem.W.Frag} {H:Hp} {A:List Addr} {f:Str}
end
section
variable {X:Cx} {Z:Zc} {e:Expr} {es:List Expr} {C:Addr} {f:Str} {pos:Pos}
def Jc (n:Nat) (C:Addr) (f:Str) (fe:FE):FS:=fun d ρ=>match ρ[n]? with
 | some (some (.ins C' ns ts,true))=>C'=C∧fe ρ fun v=>ts.length < 1000∧d.nx (ρ.set n (some (.ins C' (Nm f ns) (Nn f v ns ts),true)))
 | _=>False
def VF (K:PySem.W.Frag) (C:Addr) (n:Nat) (G:List T→(T→Prop)→Prop):Sp:=qv K (true :: List.replicate n false) fun ts q=>match ts with
 | .ins C' [] [] :: us=>C'=C∧G us fun u=>q [u] (.vw .bp)
 | _=>False
end
structure Dc (K:PySem.W.Frag) (mg:Str→Option Value) (cls qual:Str) (st:Stmt) (ps:List Str) (C f:Addr) (fd:FuncData):Prop where
 F:Dv K "__init__" qual st f fd
 m:mg cls=some (.ref C)
 b:Binds K fd ps []
 M:Mk K C f
def Ti (P:Program) (w:World) (K:PySem.W.Frag) (mg:Str→Option Value) (base:Heap) (cls:Str) (C:Addr) (ps:List Str) (k n:Nat) (G:List T→(T→Prop)→Prop):Prop :=
 ∃ f fd,Mk K C f∧mg cls=some (.ref C)∧Binds K fd ps []∧dX P w K mg base jN k f fd ps (VF K C n G)
section
variable {P:Program} {w:World} {K:PySem.W.Frag} {mg:Str→Option Value} {base:Heap}
theorem Dc.gA {cls qual:Str} {st:Stmt} {ps:List Str} {C f:Addr} {fd:FuncData} {k n:Nat} {G:List T→(T→Prop)→Prop} (D:Dc K mg cls qual st ps C f fd) (F:dX P w K mg base jN k f fd ps (VF K C n G)):Ti P w K mg base cls C ps k n G :=
 ⟨f,fd,D.M,D.m,D.b,F⟩
end
section
variable {X:Cx}
end
section
variable {X:Cx} {Z:Zc} {a:Expr} {fa:FE} {p1 apos Ek yA:Pos}
end
structure E5 (K:PySem.W.Frag) (H H':Hp) (Ox:List Addr) (us:List T) (p:Addr) (ls:List Addr):Prop where
 same:aK H H'
 tup:H' p=some (.tup (ls.map V.ref))
 nd:ls.Nodup
 new:∀ a∈ls,H a=none
 Xl:Paired (fun a t=>cq K H' (ls ++ Ox) a t) ls us
structure Tj (K:PySem.W.Frag) (Z:Zc) (tm:List (T×V)) (d:HV) (dp:List T→Prop) (D:Ends):Prop where
 fin:Fin K Z tm d D
 dp:∀ us,dp us→∀ p ls H',E5 K Z.H0 H' Z.Ox us p ls→D.rt (.ref p) H'
abbrev Np:=HV→(List T→Prop)→En→Prop
def VH (X:Cx) (Z:Zc) (tm:List (T×V)) (g:Np):TS:=fun D σ H=>∃ ρ O d dp,aq X.K Z tm O ρ σ H∧g d dp ρ∧Tj X.K Z tm d dp D
def E6 (X:Cx) (Z:Zc) (st:List Stmt) (g:Np):Prop:=Bx fun tm=>lz X st (VH X Z tm g)
instance {X:Cx} {Z:Zc} {st:List Stmt} {g:Np}:CoeFun (E6 X Z st g) fun _=>∀ tm,lz X st (VH X Z tm g):=⟨fun h=>Bx.h h⟩
section
variable {X:Cx} {Z:Zc} {st:Stmt} {rest:List Stmt} {g:FS} {u:Np} {pos:Pos}
theorem E6.weak {u':Np} (h:E6 X Z rest u) (hw:∀ d dp ρ,u' d dp ρ→u d dp ρ):E6 X Z rest u':=.mk fun tm=>lz.sF (h tm) fun D σ H ⟨ρ,O,d,dp,I,q,F⟩=>⟨ρ,O,d,dp,I,hw d dp ρ q,F⟩
end
section
variable {P:Program} {w:World} {K:PySem.W.Frag} {mg:Str→Option Value} {base:Heap}
end
section
variable {X:Cx} {Z:Zc} {k n:Nat} {f:Addr} {fd:FuncData} {ps:List Str} {G:List T→(List T→Prop)→Prop} {x:Str} {p pos:Pos} {e:Expr} {es:List Expr} {g:FA}
def lD (X:Cx) (Z:Zc) (tm:List (T×V)) (f:En→(List T→Prop)→Prop):TE:=fun σ H Q=>∃ ρ O q,aq X.K Z tm O ρ σ H∧f ρ q∧∀ us,q us→∀ p ls H',E5 X.K H H' (av Z O) us p ls→Q (.ref p) H'
def VD (X:Cx) (Z:Zc) (e:Expr) (f:En→(List T→Prop)→Prop):Prop:=Bx fun tm=>PE X e (lD X Z tm f)
instance {X:Cx} {Z:Zc} {e:Expr} {f:En→(List T→Prop)→Prop}:CoeFun (VD X Z e f) fun _=>∀ tm,PE X e (lD X Z tm f):=⟨fun h=>Bx.h h⟩
theorem E5.at {K:PySem.W.Frag} {tm:List (T×V)} {O:List (Option Addr)} {ρ:En} {σ:St} {H H':Hp} {us:List T} {p:Addr} {ls:List Addr} (I:aq K Z tm O ρ σ H) (D:E5 K H H' (av Z O) us p ls):At K H' (av Z O) (.tup us) (.ref p):=by
 refine bt (dq.of D.tup) (au.iff.mpr ?_)
 have key:∀ {Qz:List Addr} {Qw:List T},(∀ a∈Qz,a∈ls)→Paired (fun a t=>cq K H' (ls ++ av Z O) a t) Qz Qw→Paired (fun v t=>At K H' (av Z O) t v) (Qz.map V.ref) Qw:=by
  intro Qz Qw sub h
  induction h with
  | nil=>exact .nil
  | cons r t ih =>
    refine .cons ((r.bh fun b hb=>iR _ hb).at fun z=>?_) (ih fun a ha=>sub a (g9 _ ha))
    exact I.KO _ z (D.new _ (sub _ eW))
 exact key (fun _ h=>h) D.Xl
def Nq (f:En→(List T→Prop)→Prop):FP:=fun ρ Q=>f ρ fun us=>Q (.vw (.tup us))
theorem VD.vp {f:En→(List T→Prop)→Prop} (h:VD X Z e f):VP X Z e (Nq f):=.mk fun tm=>PE.weak (h tm) fun σ H Q ⟨ρ,O,q,I,hf,k⟩ =>
 ⟨ρ,O,_,I,hf,fun us hu p ls H' D=>k _ hu _ H' D.same ⟨I.same D.same,D.at I⟩⟩
end
section
variable {X:Cx} {Z:Zc}
end
section
variable {X:Cx} {Z:Zc}
end
section
variable {X:Cx} {Z:Zc} {st:Stmt} {bB:List Stmt} {g:FS}
end
section
variable {X:Cx} {Z:Zc} {o e:Expr} {fo fe:FE} {apos a_:Pos}
def Nr (fo:FE) (g:FA):FP:=fun ρ Q=>fo ρ fun x=>match x with
 | .str z=>g ρ fun y=>∃ ys:List Str,y=[.lst (ys.map .str)]∧(ys.map (·.length)).sum+ys.length * z.length≤16777216∧Q (.vw (.str (Txt.join z ys)))
 | _=>False
theorem ug {K:PySem.W.Frag} {H:Hp} {A:List Addr}:∀ {ys:List Str} {vs:List V},au K H A (ys.map .str) vs→vs=ys.map V.str
 | [],vs,h=>by simpa only [FH,au] using h
 | y :: ys,vs,h=>by
   simp only [fu,au,At] at h
   obtain ⟨v,r,rfl,rfl,h⟩:=h
   rw [ug h]; rfl
theorem kq {g:FA} (ho:VR X Z o fo) (he:FT X Z [e] g) (dO:attributeBase o "join" X.env (eval o X.env)=eval o X.env:=by rfl)
  (jX:((backTo a_ (starEach [e] X.env)).all (fun x=>!x.1) && (backToKw a_ (keywordEach [] X.env)).all (fun x=>x.1.isSome)
    && decide (([e]:List Expr).length+([]:List Keyword).length+(if ([]:List Keyword).isEmpty then 0 else 1) < 30))=true:=by rfl)
  (dP:(apos.endLine == a_.line)=true:=by rfl) (hs:starEach [e] X.env=(false,eval e X.env) :: starEach [] X.env:=by rfl) (dw:(backTo a_ (starEach [] X.env)).any (·.1)=false:=by rfl) :
  VP X Z (.Call (.Attribute o "join" apos) [e] [] a_) (Nr fo g):=.mk fun tm =>
 PE.weak (pC QX PySem.F.slot_str_join PySem.F.type_str_join DD (ho tm) (he tm) dO jX dP hs dw) fun σ H Q ⟨ρ,O,q,I,hf,k⟩ =>
  ⟨ρ,O,_,I,hf,fun x hx v H1 s1 a1=>by
    split at hx
    · rename_i z
      have ev:=a1.str
      subst ev
      refine ⟨rfl,ρ,O,_,I.same s1,hx,fun y hy w H2 s2 a2=>?_⟩
      obtain ⟨ys,rfl,hl,hq⟩:=hy
      obtain ⟨u,rfl,a3⟩:=cc a2
      obtain ⟨p,vs,rfl,h1,h2⟩:=a3.lst
      have ev:=ug h2
      subst ev
      exact ⟨z,p,ys,rfl,rfl,h1,hl,k _ hq _ H2 (s1.trans s2) ⟨(I.same s1).same s2,bE⟩⟩
    · exact hx.elim⟩
end
theorem cy {α:Type} {f u:α→T} {h:FG} {fe:FE} {ρ:En}:∀ {xs:List α} {Q:List T→Prop},(∀ x∈xs,∀ r:T→Prop,r (u x)→h (f x) ρ fun ρ2=>fe ρ2 r)→Q (xs.map u)→cP h AV fe ρ (xs.map f) Q
 | [],Q,_,hq=>hq
 | x :: xs,Q,step,hq=>by
   simp only [fu,cP]
   exact step x eW (fun y=>cP h AV fe ρ (xs.map f) fun us=>Q (y :: us)) (cy (Q:=fun us=>Q (u x :: us)) (fun y hy=>step y (g9 _ hy)) hq)
end VT
namespace VT
open PySem PySem.Spec PyProof.Rows L2 PySem.Builtin PySem.Builtin.Str
theorem pZ:∀ (n:Nat) (l:List Str),Vals (l.map V.str) (strsFrom n l)
 | _,[]=>.nil
 | n,x :: l=>.cons ⟨n,rfl⟩ (pZ (n+1) l)
section
variable {X:Cx}
theorem BZ:zS X "str.split" (fun x xs H Q=>∃ (z y:Str),x = .str z∧xs=[.str y]∧(y.length == 0)=false∧z.length+2≤sizeLine∧∀ l,H l=none→Q (.ref l) (upd H l (.lst ((Txt.split z y).map V.str)))):=by
 intro pins s σ H x xs v us Q I rx rs h
 obtain ⟨z,y,rfl,rfl,hy,hz,q⟩:=h
 obtain ⟨t,rfl⟩:=rx
 obtain ⟨u,rfl,t2,rfl⟩:=vals1 rs
 have Xm:z.length≤sizeLine:=by omega
 have key:∀ (aJ:List Value) (k:Nat),s.toks≤k→Vals ((Txt.split z y).map V.str) aJ→(Txt.split z y).length≤sizeLine →
   EP X pins σ Q (.ref s.heap.objs.size) { s with toks:=k,heap:=s.heap.push { cls:=.type "list",data:=.seq aJ.toArray } }:=fun aJ k hk r' hl =>
  ⟨.ref s.heap.objs.size,_,I.laid (t':=k) (fun b o' e=>d_ _ e) (dH _) (show b8 X.prog X.w _ _ _ (.lst ((Txt.split z y).map V.str)) from ⟨by rw [bU]; exact hl,aJ,0,r',ly _ rfl⟩),rfl,q _ (I.bA.fresh (dH _))⟩
 cases h1:(decide (z.length < y.length) || decide (strKind z < strKind y)) with
 | true =>
   have e:Txt.split z y=[z]:=if_pos h1
   exact call_meets PR (typeIs_str _ _ _) QS (QN _ _) (meets_str_split_cannot_occur z y t t2 h1) (key [.str z t] s.toks (dH _) (by rw [e]; exact .cons ⟨t,rfl⟩ .nil) (by rw [e]; show 1≤sizeLine; decide))
 | false =>
   cases hf:(occurrences z y 0 z.length (z.length+1)).isEmpty with
   | true =>
     have e:Txt.split z y=[z]:=(if_neg (by rw [h1]; exact iS)).trans (if_pos hf)
     exact call_meets PR (typeIs_str _ _ _) QS (QN _ _) (meets_str_split_not_found z y t t2 h1 hy hf) (key [.str z t] s.toks (dH _) (by rw [e]; exact .cons ⟨t,rfl⟩ .nil) (by rw [e]; show 1≤sizeLine; decide))
   | false =>
     have e:Txt.split z y=partsBetween z (occurrences z y 0 z.length (z.length+1)) y.length:=(if_neg (by rw [h1]; exact iS)).trans (if_neg (by rw [hf]; exact iS))
     have hl:(Txt.split z y).length≤sizeLine:=kF (split_le z y) hz
     exact call_meets PR (typeIs_str _ _ _) QS (QN _ _) (meets_str_split_sep z y t t2 h1 hy hf Xm (by rw [← e]; exact hl)) (by
      have:=key (strsFrom s.toks (Txt.split z y)) (s.toks+(Txt.split z y).length) (Nat.le_add_right _ _) (pZ _ _) hl
      rw [e] at this
      exact this)
theorem kr:cM X (.type "str") (fun xs H Q=>(∃ z,xs=[.str z]∧Q (.str z) H)∨∃ i:Int,xs=[.int i]∧i.natAbs.log2 < 1920∧Q (.str (toString i)) H):=by
 intro pins s σ H xs us Q I r h
 rcases h with ⟨z,rfl,q⟩ | ⟨i,rfl,hi,q⟩
 · obtain ⟨u,rfl,t,rfl⟩:=vals1 r
   exact PySem.P.str_of_str ⟨.str z,H,I,⟨t,rfl⟩,q⟩
 · obtain ⟨u,rfl,t,rfl⟩:=vals1 r
   exact PySem.P.str_of_int hi ⟨.str _,H,I.tok _,⟨_,rfl⟩,q⟩
theorem zb:cM X (.type "int") (fun xs H Q=>∃ (z:Str) (n:Int),xs=[.str z]∧PySem.intText? z=some n∧z.length≤640∧Q (.int n) H):=by
 intro pins s σ H xs us Q I r h
 obtain ⟨z,n,rfl,hn,hl,q⟩:=h
 obtain ⟨u,rfl,t,rfl⟩:=vals1 r
 exact PySem.W.KIN.call_text hn hl ⟨.int n,H,I.tok _,⟨_,rfl⟩,q⟩
end
def B0 (ts:List T) (q:Rt→Prop):Prop:=match ts with
 | [.str z]=>q (.vw (.str z))
 | [.int i]=>i.natAbs.log2 < 1920∧q (.vw (.str (toString i)))
 | _=>False
theorem iP {K:PySem.W.Frag}:i6 K (fun xs H Q=>(∃ z,xs=[.str z]∧Q (.str z) H)∨∃ i:Int,xs=[.int i]∧i.natAbs.log2 < 1920∧Q (.str (toString i)) H) B0:=by
 intro Z tm O ρ σ H ts vs q Q I h hp k
 unfold B0 at hp
 split at hp
 · obtain ⟨v,rfl,a⟩:=cc h
   exact .inl ⟨_,by rw [a.str],k _ hp _ H (aK.refl H) ⟨I,bE⟩⟩
 · obtain ⟨v,rfl,a⟩:=cc h
   exact .inr ⟨_,by rw [a.int],hp.1,k _ hp.2 _ H (aK.refl H) ⟨I,bE⟩⟩
 · exact hp.elim
def Gs (ts:List T) (q:Rt→Prop):Prop:=match ts with
 | [.str z]=>∃ n,PySem.intText? z=some n∧z.length≤640∧q (.vw (.int n))
 | _=>False
theorem wc {K:PySem.W.Frag}:i6 K (fun xs H Q=>∃ (z:Str) (n:Int),xs=[.str z]∧PySem.intText? z=some n∧z.length≤640∧Q (.int n) H) Gs:=by
 intro Z tm O ρ σ H ts vs q Q I h hp k
 unfold Gs at hp
 split at hp
 · obtain ⟨v,rfl,a⟩:=cc h
   obtain ⟨n,h1,h2,h3⟩:=hp
   exact ⟨_,n,by rw [a.str],h1,h2,k _ h3 _ H (aK.refl H) ⟨I,bD⟩⟩
 · exact hp.elim
theorem we:bootBuiltins "str" = some (.type "str"):=by decide +kernel
section
variable {X:Cx} {Z:Zc} {o e:Expr} {fo fe:FE} {apos a_:Pos}
theorem uh {K:PySem.W.Frag} {H:Hp} {A:List Addr}:∀ ys:List Str,au K H A (ys.map .str) (ys.map V.str)
 | []=>au.nil
 | _ :: ys=>au.cons bE (uh ys)
def Jw (fo fe:FE):FP:=fun ρ Q=>fo ρ fun x=>match x with
 | .str z=>fe ρ fun y=>match y with
   | .str y=>(y.length == 0)=false∧z.length+2≤sizeLine∧Q (.fr (.lst ((Txt.split z y).map .str)))
   | _=>False
 | _=>False
theorem ui (ho:VR X Z o fo) (he:VR X Z e fe) (dO:attributeBase o "split" X.env (eval o X.env)=eval o X.env:=by rfl)
  (jX:((backTo a_ (starEach [e] X.env)).all (fun x=>!x.1) && (backToKw a_ (keywordEach [] X.env)).all (fun x=>x.1.isSome)
    && decide (([e]:List Expr).length+([]:List Keyword).length+(if ([]:List Keyword).isEmpty then 0 else 1) < 30))=true:=by rfl)
  (dP:(apos.endLine == a_.line)=true:=by rfl) (hs:starEach [e] X.env=(false,eval e X.env) :: starEach [] X.env:=by rfl) (dw:(backTo a_ (starEach [] X.env)).any (·.1)=false:=by rfl) :
  VP X Z (.Call (.Attribute o "split" apos) [e] [] a_) (Jw fo fe):=.mk fun tm =>
 PE.weak (pC QX PR PySem.F.type_str_split BZ (ho tm) (bY (he tm) dW hs) dO jX dP hs dw) fun σ H Q ⟨ρ,O,q,I,hf,k⟩ =>
  ⟨ρ,O,_,I,hf,fun x hx v H1 s1 a1=>by
    split at hx
    · rename_i z
      have ev:=a1.str
      subst ev
      refine ⟨rfl,ρ,O,_,I.same s1,hx,fun y hy w H2 s2 a2=>?_⟩
      split at hy
      · have ew:=a2.str
        subst ew
        obtain ⟨h1,h2,h3⟩:=hy
        exact ⟨z,_,rfl,rfl,h1,h2,fun l hl=>k _ h3 _ _ ((s1.trans s2).trans (aM hl)) (((I.same s1).same s2).yp hl (uh _))⟩
      · exact hy.elim
    · exact hx.elim⟩
end
end VT
namespace PySem.AutoSeq1
end PySem.AutoSeq1
namespace VT
open PySem PySem.Spec PyProof.Rows L2
section
variable {X:Cx}
end
section
variable {X:Cx} {Z:Zc} {e:Expr} {apos a_:Pos}
end
end VT
namespace n8
open PySem L2 VT Gen xi K9
open cD (Acc ju kP gW qT fK)
def top (i:Nat):Stmt:=PySem.Challenge.pw_slicewise_k09_programs_written_and_read.main.body.getD i (.Pass ⟨0,0,0,0⟩)
abbrev hV:Stmt:=top 39
abbrev hW:Stmt:=top 40
abbrev rD:Stmt:=top 41
abbrev jF:Stmt:=top 42
abbrev hX:Stmt:=top 43
abbrev cj:Stmt:=top 44
def Jx:List (Str×T):=[("def",.int 2),("call",.int 3)]
structure Jy (w:World) (K:PySem.W.Frag) (mg:Str→Option Value):Prop where
 E7:∃ t,mg "FIGURES" = some (.str o6 t)
 nM:∃ t,mg "LONGEST_NUMBER" = some (.int 32 t)
 Nt:∃ a,mg "AHEAD_OF_TUPLE" = some (.ref a)∧tq w K a Jx
 isinstance:mg "isinstance" = none
 tuple:mg "tuple" = none
 str:mg "str" = none
 int:mg "int" = none
 len:mg "len" = none
 all:mg "all" = none
 enumerate:mg "enumerate" = none
theorem cZ {n:Nat} (h:n≤1000):n≤sizeLine:=small h
def xQ (ts:List T) (q:Rt→Prop):Prop:=∃ x:Str,ts=[.str x]∧x.length≤500∧q (.vw (.bl (zZ x)))
def xR (ts:List T) (q:Rt→Prop):Prop:=∃ p:Pt,ts=[.str p.s]∧p.ok∧q (.vw p.t)
def B1 (ts:List T) (q:Rt→Prop):Prop:=∃ r:Rw,ts=[.str (cm r)]∧pY r∧q (.vw (aN r))
def xS (ts:List T) (q:Rt→Prop):Prop:=∃ r:Rw,ts=[aN r]∧pY r∧q (.vw (.str (cm r)))
def uj (ts:List T) (q:Rt→Prop):Prop:=∃ rs:List Rw,ts=[.lst (rs.map aN)]∧rs.length≤60∧(∀ r∈rs,pY r)∧q (.vw (.str (gz rs)))
def Gu (ts:List T) (q:Rt→Prop):Prop:=∃ rs:List Rw,ts=[.str (gz rs)]∧(∀ r∈rs,pY r)∧Acc rs∧q (.fr (.lst (rs.map aN)))
theorem uk:∀ l:List Nat,bS (l.map ((fun t:T=>match t with | .str y=>.bl (sU y o6) | _=>.bp) ∘ fun c=>T.str ⟨#[c]⟩))=some (l.map xN)
 | []=>rfl
 | c :: l=>by
   rw [fu,fu]
   show (bS _).map _=_
   rw [uk l]
   rfl
theorem rE {ts:List T} {k:Nat} (h:k≤ts.length):gc ts none (some (k:Int))=ts.take k:=by
 unfold gc
 rw [HT.g_,Nat.min_eq_left h]
 simp [HT.cX]
theorem wg {ts:List T} {k:Nat} (h:k≤ts.length):gc ts (some (k:Int)) none=ts.drop k:=by
 unfold gc
 rw [HT.g_,HT.l6,Nat.min_eq_left h,QU (by rw [Kv]; omega)]
def gT:Pt ⊕ List Pt→T
 | .inl p=>p.t
 | .inr ps=>.tup (ps.map Pt.t)
def gP:Pt ⊕ List Pt→List Pt
 | .inl p=>[p]
 | .inr ps=>ps
def g6:Rw→List (Pt ⊕ List Pt)
 | .df f ps=>[.inl (.nm "def"),.inl (.nm f),.inr (ps.map .nm)]
 | .call x f as=>[.inl (.nm "call"),.inl (.nm x),.inl (.nm f),.inr (as.map v8)]
 | r=>(c6 r).map .inl
theorem Gv (l:List Pt):(l.map (Sum.inl:Pt→Pt ⊕ List Pt)).flatMap gP=l:=by
 induction l with
 | nil=>rfl
 | cons p l ih=>rw [fu,List.flatMap_cons,ih]; rfl
theorem xT (r:Rw):(g6 r).flatMap gP=c6 r:=by
 cases r with
 | df f ps=>simp [g6,gP,c6,bO,wd]
 | call x f as=>simp [g6,gP,c6,bO,wd]
 | _=>exact Gv _
theorem rF (r:Rw):aN r = .tup ((g6 r).map gT):=by
 have h:=uf r
 cases r with
 | df f ps=>rw [← h]; rfl
 | call x f as=>rw [← h]; rfl
 | _=>rw [← h]; rfl
def Tn (q:Rt→Prop):FS:=fun d ρ=>∃ (rs:List Rw) (x:Str),ρ=[some (.str x,false),some (.lst (rs.map fun r=>T.str (cm r)),false),none,none,none]∧(∀ r∈rs,pY r)∧Acc rs∧q (.fr (.lst (rs.map aN)))∧∀ ρ r,q r→d.rt ρ r
def To (q:Rt→Prop):FS:=fun d ρ=>∃ x y:Str,ρ=[some (.str x,false),some (.str y,false)]∧k_ x=y∧x.length≤500∧y.length≤500∧q (.vw (.bl (zZ x)))∧∀ ρ r,q r→d.rt ρ r
section
variable {P:Program} {w:World} {K:PySem.W.Frag} {mg:Str→Option Value} {base:Heap}
abbrev dZ:List Str:=["word","figures"]
theorem fO:aE dZ ["word"] (ak cj):=⟨rfl,rfl,rfl,by decide +kernel,rfl,by decide +kernel,by decide +kernel⟩
theorem ik:(dZ ++ (["sign"]:List Str)).Nodup:=by decide +kernel
theorem ku {f:Addr} {fd:FuncData} (D:Df K mg "writes_number" cj ["word"] f fd) (M:Jy w K mg):bX P w K mg base "writes_number" ["word"] 1 (bR K 1 xQ):=by
 refine D.gA (gN D.F fO rfl fun bZ A outer s H E Ox hr ts q hG=>?_)
 have nd:=fO.nd
 have hu:=bP.gg hr
 have np:∀ {i:Nat},aT ⟨H,[],Ox⟩ i:=kK
 obtain ⟨tF,mF⟩:=M.E7
 obtain ⟨tN,mN⟩:=M.nM
 have kx:∀ {pos},VP (ib jN P w K mg base dZ "writes_number" (ak cj) f bZ A outer s H E).r0 ⟨H,[],Ox⟩ (.Name "LONGEST_NUMBER" pos) (fC (.int 32)):=dI (by rfl) mN (v:=.int 32) ⟨tN,rfl⟩ fun _ _=>bD
 refine ⟨_,(ae (aS (i:=1) nd rfl (Or.inl rfl) (VP.vx (xk (bV (ka (aa 0) (VP.vr ar))) (c_ (aa 0) (dJ (VP.vr ag)) eZ) (VE.vp (ai 0)))) np)
   (lF.weak (u:=(To q)) (ae (aQ (VW.vc (fE (bQ hu (aa 1) (VP.vr ar)) (eD (sI (VP.vr (ax az aB (by rfl) M.len h_ (aj (aa 0) ao))) (VP.vr kx)))))
     (af (aw (VP.vx fD)))
     ay)
   (ae (aQ (cu (bV (ax (bM rfl) dB (by rfl) M.all mB (aj (VP.vr (dM (ts:=["sign"]) rfl (by rfl) (da (ai 1)) (fun _ _ _ _ _ _=>(aI (i:=2) ik rfl (Or.inl rfl) np)) (fun _ _ _ _ _ _=>cC) (fun _ _ _ _ _ _=>(VP.ve (AZ (aa 2) (VP.vr (dI (by rfl) mF (v:=.str o6) ⟨tF,rfl⟩ fun _ _=>bE))))))) ao))))
     (af (aw (VP.vx fD)))
     ay)
   (af (aw (VP.vx (AH (i5 hu (aa 0) (VP.vr ar)) (iG (AI (ka (aa 1) (VP.vr ar)))))))))) ?w1)),fun _=>?main⟩
 case w1 =>
  rintro d ρ ⟨x,y,rfl,ey,hl,YD,hq,fin⟩
  unfold zZ at hq
  rw [ey] at hq
  refine sr (fun h1=>?_) (fun h1=>?_)
  · have Ip:decide (y="")=true:=h1
    rw [Ip] at hq
    exact fin _ _ hq
  · have Ip:decide (y="")=false:=by simpa using h1
    rw [Ip,Lh] at hq
    refine ⟨cZ (by omega),?_⟩
    refine sr (fun h2=>?_) (fun h2=>?_)
    · have AY:decide ((32:Int) < (x.length:Int))=true:=h2
      rw [AY] at hq
      exact fin _ _ hq
    · have AY:decide ((32:Int) < (x.length:Int))=false:=by simpa using h2
      rw [AY,Bool.not_false,uI] at hq
      refine ⟨rfl,by rw [bU,Fw]; exact cZ (by show y.length≤1000; omega),fG (fun _=>true) (fun t=>match t with | .str y=>.bl (sU y o6) | _=>.bp) (fun t ht k r h=>?_) ?_⟩
      · obtain ⟨c,_,rfl⟩:=iV.mp ht
        exact ⟨_,rfl,h⟩
      · rw [List.filter_eq_self.mpr (fun _ _=>rfl),x6]
        refine ⟨y.cps.toList.map xN,uk y.cps.toList,?_⟩
        rw [KC]
        refine sr (fun h3=>?_) (fun h3=>?_)
        · have Jg:y.cps.toList.all xN=false:=by simpa using h3
          rw [Jg,z9] at hq
          exact fin _ _ hq
        · have Jg:y.cps.toList.all xN=true:=by simpa using h3
          rw [Jg,uI] at hq
          refine fK (c:=decide (x="0")) (fun h4=>?_) (fun h4=>?_)
          · rw [h4,Bool.true_or] at hq
            exact fin _ _ hq
          · rw [h4,Lh] at hq
            exact fin _ _ hq
 case main =>
  obtain ⟨x,rfl,hl,hq⟩:=hG
  cases hs:Txt.startswith x "-" with
  | true =>
    refine yu hs ⟨cZ (by omega),x,_,rfl,by unfold k_; rw [if_pos hs],hl,kF (KA x _ _) hl,hq,fun _ _ h=>h⟩
  | false=>exact d5 hs ⟨x,x,rfl,by unfold k_; rw [hs,if_neg iS],hl,hl,hq,fun _ _ h=>h⟩
abbrev zc:List Str:=["word"]
theorem nN:aE zc ["word"] (ak hX):=⟨rfl,rfl,rfl,by decide +kernel,rfl,by decide +kernel,by decide +kernel⟩
theorem wj {f:Addr} {fd:FuncData} (D:Df K mg "part_of" hX ["word"] f fd) (M:Jy w K mg) (la:bX P w K mg base "writes_number" ["word"] 1 (bR K 1 xQ)):bX P w K mg base "part_of" ["word"] 2 (bR K 1 xR):=by
 obtain ⟨z0,zd,lb,lg,lh,lj⟩:=la
 refine D.gA (gN D.F nN rfl fun bZ A outer s H E Ox hr ts q hG=>?_)
 have nd:=nN.nd
 refine ⟨_,(af (aw (VP.vx (xk (bV (aD lj (hr.mono (by decide)) (by rfl) lb lg lh (ab (ai 0) ah))) (b_ zb wc (by rfl) M.int xw (aj (aa 0) ao)) (VE.vp (ai 0)))))),fun _=>?_⟩
 obtain ⟨p,rfl,hp,hq⟩:=hG
 have hl:=Pt.len hp
 refine ⟨rfl,p.s,rfl,by omega,?_⟩
 cases p with
 | nm x=>exact d5 (E3 hp) hq
 | fd x=>exact d5 (Ju x) hq
 | nu i =>
   obtain ⟨a,b,c,_⟩:=rz hp.1 hp.2
   exact yu a ⟨i,b,by show (c5 i).length≤640; omega,hq⟩
abbrev um:List Str:=["line","parts","ahead"]
theorem p5:aE um ["line"] (ak jF):=⟨rfl,rfl,rfl,by decide +kernel,rfl,by decide +kernel,by decide +kernel⟩
theorem rG:(um ++ (["word"]:List Str)).Nodup:=by decide +kernel
theorem ze {f:Addr} {fd:FuncData} (D:Df K mg "row_of" jF ["line"] f fd) (M:Jy w K mg) (zf:bX P w K mg base "part_of" ["word"] 2 (bR K 1 xR)):bX P w K mg base "row_of" ["line"] 3 (bR K 1 B1):=by
 obtain ⟨K1,Jz,zg,zh,zi,zj⟩:=zf
 refine D.gA (gN D.F p5 rfl fun bZ A outer s H E Ox hr ts q hG=>?_)
 have nd:=p5.nd
 have np:∀ {i:Nat},aT ⟨H,[],Ox⟩ i:=kK
 obtain ⟨aA,ky,jG⟩:=M.Nt
 refine ⟨_,(ae (qu (i:=1) (ts:=["word"]) nd rfl (Or.inl rfl) rfl (by rfl) (da (VP.ve (ui (aa 0) (VP.vr ar)))) (fun _ _ _ _ _ _=>(aI (i:=3) rG rfl (Or.inl rfl) np)) (fun _ _ _ _ _ _=>cC) (fun _ _ _ _ _ _=>(VP.ve (aD zj (hr.mono (by decide)) (by rfl) zg zh zi (ab (ai 3) ah)))) np)
   (ae (aS (i:=2) nd rfl (Or.inl rfl) (VP.vx (tu (by rfl) ky jG (VP.vr (bo (aa 1) (VP.vr ag))) ⟨rfl,rfl,rfl,rfl⟩)) np)
   (ae (aQ (A0 (aa 2) (VP.vr vb))
     (af (aw (VP.vx (b_ cN dQ (by rfl) M.tuple dc (aj (aa 1) ao)))))
     ay)
   (af (aw (VP.vx (bN (VP.vr (b_ cN dQ (by rfl) M.tuple dc (aj (VP.vr (c_ (aa 1) eZ (dJ (aa 2)))) ao))) (VP.vr (bx (ab (VP.ve (b_ cN dQ (by rfl) M.tuple dc (aj (VP.vr (c_ (aa 1) (dJ (aa 2)) eZ)) ao))) ah)))))))))),fun _=>?_⟩
 obtain ⟨r,rfl,fY,hq⟩:=hG
 have hl:=jE fY
 have hn:=fY.len
 refine ⟨rfl,by decide +kernel,by rw [sizeLine_eq]; omega,?_⟩
 rw [v_ fY,x6]
 refine ⟨by rw [bU]; exact cZ (by omega),?_⟩
 refine cy (f:=T.str ∘ Pt.s) (u:=Pt.t) (fun p hp k hk=>⟨rfl,p,rfl,fY.ok p hp,hk⟩) ?_
 have E8:=uf r
 have Tp:wb r=none→q (.vw (.tup ((c6 r).map Pt.t))):=fun e=>by rw [e] at E8; show q (.vw (Jv ((c6 r).map Pt.t) none)); rw [E8]; exact hq
 have Nu:∀ k,wb r=some k→q (.vw (.tup (((c6 r).map Pt.t).take k ++ [.tup (((c6 r).map Pt.t).drop k)]))):=fun k e=>by rw [e] at E8; show q (.vw (Jv ((c6 r).map Pt.t) (some k))); rw [E8]; exact hq
 cases r with
 | df f ps =>
   have h:=Nu 2 rfl
   have l2:2≤((c6 (.df f ps)).map Pt.t).length:=by simp [c6,bO]
   rw [← rE l2,← wg l2] at h
   refine ⟨_,aG (j:=0) rfl,cZ (by simp),?_,h⟩
   show (gc ((c6 (.df f ps)).map Pt.t) none (some (2:Nat))).length+1≤sizeLine
   rw [rE l2]
   exact cZ (by rw [Fz,bU]; omega)
 | call x f as =>
   have h:=Nu 3 rfl
   have l2:3≤((c6 (.call x f as)).map Pt.t).length:=by simp [c6,bO]
   rw [← rE l2,← wg l2] at h
   refine ⟨_,aG (j:=0) rfl,cZ (by simp),?_,h⟩
   show (gc ((c6 (.call x f as)).map Pt.t) none (some (3:Nat))).length+1≤sizeLine
   rw [rE l2]
   exact cZ (by rw [Fz,bU]; omega)
 | _=>exact ⟨_,aG (j:=0) rfl,Tp rfl⟩
abbrev p6:List Str:=["row","words","part","inner"]
theorem nO:aE p6 ["row"] (ak hW):=⟨rfl,rfl,rfl,by decide +kernel,rfl,by decide +kernel,by decide +kernel⟩
theorem o7:(p6 ++ (["word"]:List Str)).Nodup:=by decide +kernel
theorem wm {f:Addr} {fd:FuncData} (D:Df K mg "line_of" hW ["row"] f fd) (M:Jy w K mg):bX P w K mg base "line_of" ["row"] 1 (bR K 1 xS):=by
 refine D.gA (gN D.F nO rfl fun bZ A outer s H E Ox hr ts q hG=>?_)
 have nd:=nO.nd
 have np:∀ {i:Nat},aT ⟨H,[],Ox⟩ i:=kK
 have Tq:∀ {is:List Nat},∀ i∈is,aT ⟨H,[],Ox⟩ i:=fun i _=>kK
 refine ⟨_,(ae (e8 (i:=1) nd rfl (Or.inl rfl) (VP.vx (cK ah)) np)
   (ae (cU uO rfl (da (ai 0)) (aI (i:=2) nd rfl (Or.inl rfl) np)
     (ae (aS (i:=3) nd rfl (Or.inl rfl) (VP.vx (xk (bV (bF dA (by rfl) M.isinstance (by rfl) M.tuple dc (aa 2))) (VE.vp (ai 2)) (bx (ab (ai 2) ah)))) np)
     (af (aW (ED 1 (dM (ts:=["word"]) rfl (by rfl) (da (ai 3)) (fun _ _ _ _ _ _=>(aI (i:=4) o7 rfl (Or.inl rfl) np)) (fun _ _ _ _ _ _=>cC) (fun _ _ _ _ _ _=>(VP.ve (b_ kr iP (by rfl) M.str we (aj (aa 4) ao))))))))))
   (xl [1] (af (aw (VP.vx (kq (VP.vr ar) (aj (aa 1) ao))))) Tq))),fun _=>?_⟩
 obtain ⟨r,rfl,fY,hq⟩:=hG
 have eg:=rF r
 have ep:=xT r
 have bA:∀ g∈g6 r,∀ p∈gP g,p.ok:=fun g hg p hp=>fY.ok p (by rw [← ep]; exact List.mem_flatMap.mpr ⟨g,hg,hp⟩)
 have hlen:=fY.len
 rw [eg]
 refine ⟨ia _,?_⟩
 show i8 ((g6 r).map gT) _ _ _ _
 refine gO (fun i ρ=>∃ b2 b3 ws,ρ=[some (.tup ((g6 r).map gT),false),some (.lst ws,true),b2,b3]∧ws=(((g6 r).take i).flatMap gP).map fun p=>T.str p.s) ⟨_,_,_,rfl,rfl⟩ ?_ ?_
 · rintro i g ρ hg ⟨b2,b3,ws,rfl,ew⟩
   have Tr:=jO hg
   have VJ:=bA g Tr
   have et:(((g6 r).take (i+1)).flatMap gP).map (fun p=>T.str p.s)=ws ++ (gP g).map fun p=>T.str p.s:=by
    rw [List.take_succ,hg,ew,Kt,qd]
    simp
   have KL:ws.length≤6:=by
    rw [ew,bU]
    have:(((g6 r).take i).flatMap gP).length≤((g6 r).flatMap gP).length:=by
     conv=>rhs; rw [← List.take_append_drop i (g6 r)]
     rw [Kt,kS]
     omega
    rw [ep] at this
    omega
   have S4:(gP g).length≤6:=by
    have:(gP g).length≤((g6 r).flatMap gP).length:=by
     obtain ⟨a,b,e⟩:=List.append_of_mem Tr
     rw [e,Kt,List.flatMap_cons,kS,kS]
     omega
    rw [ep] at this
    omega
   have sz:ws.length+((gP g).map fun p=>T.str p.s).length≤sizeLine:=cZ (by rw [bU]; omega)
   have one:∀ p:Pt,p.ok→∀ k:Rt→Prop,k (.vw (.str p.s))→B0 [p.t] k:=fun p hp k hk=>by
    cases p with
    | nm x=>exact hk
    | fd x=>exact hk
    | nu i=>exact ⟨nJ hp.1 hp.2,hk⟩
   cases g with
   | inr ps =>
     have jU:ps.length≤6:=S4
     have Nv:∀ p∈ps,p.ok:=VJ
     refine ⟨rfl,rfl,by show (ps.map Pt.t).length≤sizeLine; rw [bU]; exact cZ (by omega),?_⟩
     refine cy (f:=Pt.t) (u:=fun p=>T.str p.s) (fun p hp k hk=>?_) ?_
     · cases p with
       | nm x=>exact hk
       | fd x=>exact hk
       | nu i=>exact ⟨nJ (Nv _ hp).1 (Nv _ hp).2,hk⟩
     · exact ⟨sz,_,_,_,rfl,et.symm⟩
   | inl p =>
     have CU:p.ok:=VJ p eW
     cases p with
     | nm x=>exact ⟨rfl,cZ (by simp),rfl,cZ (by simp),sz,_,_,_,rfl,et.symm⟩
     | fd x=>exact ⟨rfl,cZ (by simp),rfl,cZ (by simp),sz,_,_,_,rfl,et.symm⟩
     | nu i=>exact ⟨rfl,cZ (by simp),rfl,cZ (by simp),nJ CU.1 CU.2,sz,_,_,_,rfl,et.symm⟩
 · rintro ρ ⟨b2,b3,ws,rfl,ew⟩
   rw [Kw,ep] at ew
   subst ew
   refine ⟨(c6 r).map Pt.s,by rw [x6]; rfl,?_,hq⟩
   have s:=nK (f:=fun x:Str=>x.length) (n:=32) (l:=(c6 r).map Pt.s) fun x hx=>by
    obtain ⟨p,hp,rfl⟩:=iV.mp hx
    exact Pt.len (fY.ok p hp)
   rw [bU] at s ⊢
   have:(((" " : String):Str)).length=1:=by decide +kernel
   rw [this]
   omega
abbrev p7:List Str:=["program"]
theorem nP:aE p7 ["program"] (ak hV):=⟨rfl,rfl,rfl,by decide +kernel,rfl,by decide +kernel,by decide +kernel⟩
theorem o8:(p7 ++ (["row"]:List Str)).Nodup:=by decide +kernel
theorem wo {f:Addr} {fd:FuncData} (D:Df K mg "written" hV ["program"] f fd) (M:Jy w K mg) (zk:bX P w K mg base "line_of" ["row"] 1 (bR K 1 xS)):bX P w K mg base "written" ["program"] 2 (bR K 1 uj):=by
 obtain ⟨K2,JA,zl,zm,zo,zp⟩:=zk
 refine D.gA (gN D.F nP rfl fun bZ A outer s H E Ox hr ts q hG=>?_)
 have nd:=nP.nd
 have np:∀ {i:Nat},aT ⟨H,[],Ox⟩ i:=kK
 refine ⟨_,(af (aw (VP.vx (kq (VP.vr ar) (aj (VP.vr (dM (ts:=["row"]) rfl (by rfl) (da (ai 0)) (fun _ _ _ _ _ _=>(aI (i:=1) o8 rfl (Or.inl rfl) np)) (fun _ _ _ _ _ _=>cC) (fun _ _ _ _ _ _=>(VP.ve (aD zp (hr.mono (by decide)) (by rfl) zl zm zo (ab (ai 1) ah)))))) ao))))),fun _=>?_⟩
 obtain ⟨rs,rfl,hl,bA,hq⟩:=hG
 refine ⟨rfl,by rw [bU]; exact cZ (by omega),?_⟩
 refine cy (f:=aN) (u:=fun r=>T.str (cm r)) (fun r fY k hk=>⟨rfl,r,rfl,bA r fY,hk⟩) ?_
 refine ⟨rs.map cm,by rw [x6]; rfl,?_,hq⟩
 have s:=nK (f:=fun x:Str=>x.length) (n:=200) (l:=rs.map cm) fun x hx=>by
  obtain ⟨r,fY,rfl⟩:=iV.mp hx
  exact jE (bA r fY)
 rw [bU] at s ⊢
 have:((("\n" : String):Str)).length=1:=by decide +kernel
 rw [this]
 omega
abbrev B2:List Str:=["text","lines","rows","place","row"]
theorem xU:aE B2 ["text"] (ak rD):=⟨rfl,rfl,rfl,by decide +kernel,rfl,by decide +kernel,by decide +kernel⟩
theorem wq:(B2 ++ (["line"]:List Str)).Nodup:=by decide +kernel
theorem E9 {f:Addr} {fd:FuncData} (D:Df K mg "read" rD ["text"] f fd) (M:Jy w K mg) (B3:bX P w K mg base "row_of" ["line"] 3 (bR K 1 B1)) (nc:bX P w K mg base "is_row" ["row"] 5 (bR K 1 cD.Jh)) (rH:bX P w K mg base "program_of" ["rows"] 7 (bR K 1 cD.ju)):bX P w K mg base "read" ["text"] 8 (bR K 1 Gu):=by
 obtain ⟨Nw,K3,B4,B5,B6,B7⟩:=B3
 obtain ⟨BQ,yX,ng,nh,ni,nq⟩:=nc
 obtain ⟨E_,CV,rJ,rK,rL,rM⟩:=rH
 refine D.gA (gN D.F xU rfl fun bZ A outer s H E Ox hr ts q hG=>?_)
 have nd:=xU.nd
 have hu:=bP.gg hr
 have np:∀ {i:Nat},aT ⟨H,[],Ox⟩ i:=kK
 refine ⟨_,(ae (aQ (cu (bV (bF eG (by rfl) M.isinstance (by rfl) M.str mD (aa 0))))
    (af gX)
    ay)
   (ae (aS (i:=1) nd rfl (Or.inl rfl) (VP.vx (xk (gK hu (aa 0) (VP.vr ar)) (ui (aa 0) (VP.vr ar)) (cK ah))) np)
   (lF.weak (u:=(Tn q)) (ae (qu (i:=2) (ts:=["line"]) nd rfl (Or.inl rfl) rfl (by rfl) (da (ai 1)) (fun _ _ _ _ _ _=>(aI (i:=5) wq rfl (Or.inl rfl) np)) (fun _ _ _ _ _ _=>cC) (fun _ _ _ _ _ _=>(VP.ve (aD B7 (hr.mono (by decide)) (by rfl) B4 B5 B6 (ab (ai 5) ah)))) np)
   (ae (cU uO rfl (jc (by rfl) M.enumerate (ai 2)) (gd (n:=2) rfl (br (aI (i:=3) nd rfl (Or.inl rfl) np) (br (aI (i:=4) nd rfl (Or.inl rfl) np) d4)))
     (af (aQ (cu (bV (aD nq (hr.mono (by decide)) (by rfl) ng nh ni (ab (ai 4) ah))))
       (af gX)
       ay)))
   (af (aw (VP.vx (aD rM (hr.mono (by decide)) (by rfl) rJ rK rL (ab (ai 2) ah))))))) ?w1))),fun _=>?main⟩
 case w1 =>
  rintro d ρ ⟨rs,x,rfl,bA,hA,hq,fin⟩
  have hn:=hA.n
  refine ⟨rfl,by rw [bU]; exact cZ (by omega),?_⟩
  refine cy (f:=fun r=>T.str (cm r)) (u:=aN) (fun r fY k hk=>⟨rfl,r,rfl,bA r fY,hk⟩) ?_
  refine fN (fun i ρ=>∃ b3 b4,ρ=[some (.str x,false),some (.lst (rs.map fun r=>T.str (cm r)),false),some (.lst (rs.map aN),false),b3,b4]) ⟨_,_,rfl⟩ ?_ ?_
  · rintro i r ρ fY ⟨b3,b4,rfl⟩
    obtain ⟨x,ps,ex,Tf,Tg,Th⟩:=hA.g r (jO fY)
    refine ⟨rfl,rfl,rfl,x,ps,by rw [← ex],by omega,Tg,?_⟩
    rw [Th]
    exact ⟨_,_,rfl⟩
  · rintro ρ ⟨b3,b4,rfl⟩
    exact ⟨rfl,rs,rfl,hA,fin _ _ hq⟩
 case main =>
  obtain ⟨rs,rfl,bA,hA,hq⟩:=hG
  have hn:=hA.n
  have YE:=text_len hn bA
  refine ⟨rfl,?_⟩
  cases rs with
  | nil=>exact ⟨ia _,[],_,rfl,bA,hA,hq,fun _ _ h=>h⟩
  | cons r rs =>
    have iE:=E4 (rs:=r :: rs) (by simp) bA
    refine yu (c:=!decide (gz (r :: rs)="")) (by rw [decide_eq_false iE]; rfl) ?_
    refine ⟨by decide +kernel,by rw [sizeLine_eq]; omega,?_⟩
    rw [wa (by simp) bA,x6]
    exact ⟨r :: rs,_,rfl,bA,hA,hq,fun _ _ h=>h⟩
end
end n8
namespace ll
open PySem L2 VT Gen xi K9 n8
open cD (Acc ju kP gW fK)
def top (i:Nat):Stmt:=PySem.Challenge.pw_slicewise_k09_programs_written_and_read.main.body.getD i (.Pass ⟨0,0,0,0⟩)
abbrev fP:Stmt:=top 46
abbrev jH:Stmt:=top 47
abbrev fQ:Stmt:=top 48
abbrev uo:Stmt:=top 49
abbrev s_call:Stmt:=top 50
abbrev g7:Stmt:=top 51
abbrev uq:Stmt:=top 52
abbrev nQ:Stmt:=top 53
abbrev fR:Stmt:=top 54
abbrev rN:Stmt:=top 55
abbrev kz:Stmt:=top 56
abbrev s_same:Stmt:=top 57
abbrev jI:Stmt:=top 58
structure Nx (mg:Str→Option Value):Prop where
 isinstance:mg "isinstance" = none
 str:mg "str" = none
 int:mg "int" = none
 bool:mg "bool" = none
 list:mg "list" = none
 tuple:mg "tuple" = none
 len:mg "len" = none
 zip:mg "zip" = none
 all:mg "all" = none
def Lv:Nat→T→Prop
 | 0,_=>False
 | n+1,t=>(∃ i,t = .int i)∨(∃ x,t = .str x)∨∃ ts,t = .tup ts∧ts.length≤100∧∀ u∈ts,Lv n u
def gR (n:Nat) (ts:List T) (q:Rt→Prop):Prop:=∃ t,ts=[t,t]∧Lv n t∧q (.vw (.bl true))
def Gw (ts:List T) (q:Rt→Prop):Prop:=∃ rs:List Rw,ts=[.lst (rs.map aN),.lst (rs.map aN)]∧(∀ r∈rs,pY r)∧rs.length≤100∧q (.vw (.bl true))
def Gx (ts:List T) (q:Rt→Prop):Prop:=∃ r:Rw,ts=[aN r]∧pY r∧q (.vw (.str (cm r)))
theorem ur (ts:List T):gB ts ts=ts.map fun u=>.tup [u,u]:=by
 unfold gB
 rw [List.zipWith_self]
theorem all_true:∀ n:Nat,bS (List.replicate n (T.bl true))=some (List.replicate n true)
 | 0=>rfl
 | n+1=>by rw [Lc,bS,all_true n]; rfl
section
variable {P:Program} {w:World} {K:PySem.W.Frag} {mg:Str→Option Value} {base:Heap}
abbrev B8:List Str:=["_law_one","_law_other"]
theorem rO:aE B8 ["_law_one","_law_other"] (ak kz):=⟨rfl,rfl,rfl,by decide +kernel,rfl,by decide +kernel,by decide +kernel⟩
theorem nR:(B8 ++ (["_law_mine","_law_theirs"]:List Str)).Nodup:=by decide +kernel
theorem B9 {f:Addr} {fd:FuncData} (D:Df K mg "_law_part" kz ["_law_one","_law_other"] f fd):bX P w K mg base "_law_part" ["_law_one","_law_other"] 1 (bR K 2 (gR 0)) :=
 D.gA (gN D.F rO rfl fun bZ A outer s H E Ox hr ts q hG=>by obtain ⟨_,_,h,_⟩:=hG; exact h.elim)
theorem nS {n d:Nat} {f:Addr} {fd:FuncData} (D:Df K mg "_law_part" kz ["_law_one","_law_other"] f fd) (M:Nx mg) (C:bX P w K mg base "_law_part" ["_law_one","_law_other"] d (bR K 2 (gR n))):bX P w K mg base "_law_part" ["_law_one","_law_other"] (d+1) (bR K 2 (gR (n+1))):=by
 obtain ⟨JB,Fb,wt,wu,wx,wy⟩:=C
 refine D.gA (gN D.F rO rfl fun bZ A outer s H E Ox hr ts q hG=>?_)
 have nd:=rO.nd
 have hu:=bP.gg hr
 have np:∀ {i:Nat},aT ⟨H,[],Ox⟩ i:=kK
 refine ⟨_,(ae (aQ (bV (bF dA (by rfl) M.isinstance (by rfl) M.tuple dc (aa 1)))
    (ae (aQ (VW.vc (fE (cu (bV (bF dA (by rfl) M.isinstance (by rfl) M.tuple dc (aa 0)))) (eD (gK hu (VP.vr (ax az aB (by rfl) M.len h_ (aj (aa 0) ao))) (VP.vr (ax az aB (by rfl) M.len h_ (aj (aa 1) ao)))))))
      (af (aw (VP.vx fD)))
      ay)
    (af (aw (VP.vx (ax (bM rfl) dB (by rfl) M.all mB (aj (VP.vr (dM (ts:=["_law_mine","_law_theirs"]) rfl (by rfl) (vA (by rfl) M.zip (ai 0) (ai 1)) (fun _ _ _ _ _ _=>(gd (n:=2) rfl (br (aI (i:=2) nR rfl (Or.inl rfl) np) (br (aI (i:=3) nR rfl (Or.inl rfl) np) d4)))) (fun _ _ _ _ _ _=>cC) (fun _ _ _ _ _ _=>(VP.ve (aD wy (hr.mono (by omega)) (by rfl) wt wu wx (ab (ai 2) (ab (ai 3) ah))))))) ao))))))
    ay)
   (ae (aQ (VW.vc (fE (bV (bF pI (by rfl) M.isinstance (by rfl) M.bool A4 (aa 0))) (eD (gK hu (VP.vr (bF mz (by rfl) M.isinstance (by rfl) M.int xw (aa 0))) (VP.vr (bF mz (by rfl) M.isinstance (by rfl) M.int xw (aa 1)))))))
     (af (aw (VP.vx fD)))
     ay)
   (af (aw (VP.vx (iH (i5 hu (VP.vr (bF eG (by rfl) M.isinstance (by rfl) M.str mD (aa 0))) (VP.vr (bF eG (by rfl) M.isinstance (by rfl) M.str mD (aa 1)))) (iG (i5 hu (aa 0) (aa 1))))))))),fun _=>?_⟩
 obtain ⟨t,rfl,hL,hq⟩:=hG
 rcases hL with ⟨i,rfl⟩ | ⟨x,rfl⟩ | ⟨l,rfl,YF,hl⟩
 · refine ⟨rfl,rfl,rfl,rfl,rfl,rfl,?_⟩
   show q (.vw (.bl (decide (i=i))))
   rw [decide_eq_true rfl]
   exact hq
 · refine ⟨rfl,rfl,rfl,rfl,rfl,rfl,?_⟩
   show q (.vw (.bl (decide (x=x))))
   rw [decide_eq_true rfl]
   exact hq
 · refine ⟨rfl,rfl,?_⟩
   refine d5 (c:=!decide ((l.length:Int)=(l.length:Int))) (by simp) ?_
   refine ⟨rfl,?_⟩
   show (gB l l).length≤sizeLine∧cP _ _ _ _ (gB l l) _
   rw [ur]
   refine ⟨by rw [bU]; exact cZ (by omega),?_⟩
   refine cy (f:=fun u=>T.tup [u,u]) (u:=fun _=>T.bl true) (fun u hu k hk=>⟨rfl,rfl,rfl,u,rfl,hl u hu,hk⟩) ?_
   rw [List.map_const']
   refine ⟨_,all_true l.length,?_⟩
   have:(List.replicate l.length true).all id=true:=by simp
   rw [this]
   exact hq
theorem Fc {f:Addr} {fd:FuncData} (D:Df K mg "_law_part" kz ["_law_one","_law_other"] f fd) (M:Nx mg):bX P w K mg base "_law_part" ["_law_one","_law_other"] 4 (bR K 2 (gR 3)):=nS D M (nS D M (nS D M (B9 D)))
end
end ll
namespace cJ
open PySem L2 VT Gen
open xi (ba)
def top (i:Nat):Stmt:=PySem.Challenge.pw_slicewise_k09_programs_written_and_read.main.body.getD i (.Pass ⟨0,0,0,0⟩)
abbrev fP:Stmt:=top 46
abbrev jH:Stmt:=top 47
abbrev fQ:Stmt:=top 48
abbrev uo:Stmt:=top 49
abbrev s_call:Stmt:=top 50
abbrev g7:Stmt:=top 51
abbrev uq:Stmt:=top 52
abbrev nQ:Stmt:=top 53
abbrev fR:Stmt:=top 54
structure JC (mg:Str→Option Value):Prop where
 len:mg "len" = none
 range:mg "range" = none
 tuple:mg "tuple" = none
 sum:mg "sum" = none
def Gy (ts:List T) (q:Rt→Prop):Prop:=∃ (ns:List Int) (j:Nat),ts=[.lst (ns.map .int),.int (j:Int)]∧q (.vw (.int (ns.getD j 0)))
def B_ (ts:List T) (q:Rt→Prop):Prop:=∃ (c:Int) (m:Nat),ts=[.int c,.int (m:Int)]∧2≤m∧m≤20∧q (.fr (.lst ((cL c m).map .str)))
section
variable {P:Program} {w:World} {K:PySem.W.Frag} {mg:Str→Option Value} {base:Heap}
abbrev zq:List Str:=["_law_script","_law_k"]
theorem nT:aE zq ["_law_script","_law_k"] (ak fP):=⟨rfl,rfl,rfl,by decide +kernel,rfl,by decide +kernel,by decide +kernel⟩
theorem wz {f:Addr} {fd:FuncData} (D:Df K mg "_law_cell_at" fP ["_law_script","_law_k"] f fd) (M:JC mg):bX P w K mg base "_law_cell_at" ["_law_script","_law_k"] 1 (bR K 2 Gy):=by
 refine D.gA (gN D.F nT rfl fun bZ A outer s H E Ox hr ts q hG=>?_)
 have nd:=nT.nd
 refine ⟨_,(ae (aQ (ir (aa 1) (VP.vr (ax az aB (by rfl) M.len h_ (aj (aa 0) ao))))
    (af (aw (VP.vx (bo (aa 0) (aa 1)))))
    ay)
   (af (aw (VP.vx ag)))),fun _=>?_⟩
 obtain ⟨ns,j,rfl,hq⟩:=hG
 refine sr (fun h=>?_) (fun h=>?_)
 · have h':(j:Int) < ((ns.map T.int).length:Int):=of_decide_eq_true h
   rw [bU] at h'
   have hj:j < ns.length:=by omega
   refine ⟨.int (ns.getD j 0),aG ?_,hq⟩
   rw [oa,n9 hj,List.getD,n9 hj]
   rfl
 · have h':¬ ((j:Int) < ((ns.map T.int).length:Int)):=fun z=>h (decide_eq_true z)
   rw [bU] at h'
   have e:ns.getD j 0=0:=by
    rw [List.getD,List.getElem?_eq_none (by omega)]
    rfl
   rw [e] at hq
   exact hq
abbrev Fd:List Str:=["_law_cell","_law_many","_law_letters","_law_size","_law_at","_law_words_here","_law_k","_law_word","_law_j","_law_number"]
theorem uu:aE Fd ["_law_cell","_law_many"] (ak jH):=⟨rfl,rfl,rfl,by decide +kernel,rfl,by decide +kernel,by decide +kernel⟩
theorem B' {f:Addr} {fd:FuncData} (D:Df K mg "_law_words" jH ["_law_cell","_law_many"] f fd) (M:JC mg):bX P w K mg base "_law_words" ["_law_cell","_law_many"] 1 (bR K 2 B_):=by
 refine D.gA (gN D.F uu rfl fun bZ A outer s H E Ox hr ts q hG=>?_)
 have nd:=uu.nd
 have hu:=bP.gg hr
 have np:∀ {i:Nat},aT ⟨H,[],Ox⟩ i:=kK
 refine ⟨_,(ae (aS (i:=2) nd rfl (Or.inl rfl) (VP.vx ar) np)
   (ae (aS (i:=0) nd rfl (Or.inl rfl) (VP.vx (aZ (aa 0) (VP.vr (j5 (VP.vr ag) (VP.vr ag))))) np)
   (ae (aS (i:=3) nd rfl (Or.inl rfl) (VP.vx (bN (VP.vr ag) (VP.vr (aZ (aa 0) (VP.vr ag))))) np)
   (ae (aS (i:=4) nd rfl (Or.inl rfl) (VP.vx (aZ (VP.vr (bc (aa 0) (VP.vr ag))) (aa 3))) np)
   (ae (e8 (i:=5) nd rfl (Or.inl rfl) (VP.vx (cK ah)) np)
   (ae (cU uO rfl (eh (by rfl) M.range (aa 1)) (aI (i:=6) nd rfl (Or.inl rfl) np)
     (ae (aS (i:=7) nd rfl (Or.inl rfl) (VP.vx ar) np)
     (ae (cU uO rfl (eh (by rfl) M.range (aa 3)) (aI (i:=8) nd rfl (Or.inl rfl) np)
       (ae (aS (i:=9) nd rfl (Or.inl rfl) (VP.vx (bN (VP.vr (bc (VP.vr (bc (aa 0) (VP.vr ag))) (VP.vr (bN (aa 8) (VP.vr ag))))) (VP.vr (e7 (aa 8) (aa 8))))) np)
       (ae (aQ (bQ hu (aa 8) (aa 4))
         (af (HW (i:=9) nd rfl (Or.inl rfl) (aa 6) Dg AQ np))
         ay)
       (af (aS (i:=7) nd rfl (Or.inl rfl) (VP.vx (bN (aa 7) (VP.vr (bo (aa 2) (VP.vr (aZ (aa 9) (VP.vr ag))))))) np)))))
     (af (aW (du 5 rY rZ aY aV (ab (ai 7) ah)))))))
   (ae (aQ (bQ hu (VP.vr (aZ (VP.vr (bc (aa 0) (VP.vr ag))) (VP.vr ag))) (VP.vr ag))
     (af (vg 5 (VP.ve (bN (VP.vr (bo (aa 5) (VP.vr ag))) (VP.vr (bo (aa 2) (VP.vr (aZ (VP.vr (bc (aa 0) (VP.vr ag))) (VP.vr ag))))))) (VP.vr ag)))
     ay)
   (af (aw (i7 5 np)))))))))),fun _=>?_⟩
 obtain ⟨c,m,rfl,YG,Xn,hq⟩:=hG
 have Ts:(10:Int) ^ (12:Int).toNat=1000000000000:=M5
 have hz:(1:Int)+c % (10:Int) ^ (12:Int).toNat % 7=(ig c:Int):=by rw [Ts]; exact (Gf c).symm
 have zP:=mT c
 refine ⟨⟨by decide,by decide,by decide⟩,(by show (0:Int) < 10 ^ (12:Int).toNat; decide),(by show (0:Int) < 7; decide),⟨by decide,by decide⟩,(by show (0:Int) < 1+c % 10 ^ (12:Int).toNat % 7; rw [hz]; omega),ia _,by omega,by omega,?_⟩
 refine eI (fun k ρ=>∃ kv wv jv nv,ρ=[some (.int (oQ c),false),some (.int (m:Int),false),some (.str ba,false),some (.int (ig c:Int),false),some (.int (yE c:Int),false),some (.lst (((List.range k).map fun k=>bT c k (ig c)).map .str),true),kv,wv,jv,nv]) ⟨none,none,none,none,?_⟩ ?_ ?_
 · have ha:c % (10:Int) ^ (12:Int).toNat / 7 % (1+c % (10:Int) ^ (12:Int).toNat % 7)=(yE c:Int):=by rw [hz,Ts]; exact (Gg c).symm
   show [some (T.int (c % (10:Int) ^ (12:Int).toNat),false),_,_,some (T.int (1+c % (10:Int) ^ (12:Int).toNat % 7),false),some (T.int (c % (10:Int) ^ (12:Int).toNat / 7 % (1+c % (10:Int) ^ (12:Int).toNat % 7)),false),_,_,_,_,_]=_
   rw [ha,hz,Ts]
   rfl
 · rintro k ρ hk ⟨kv,wv,jv,nv,rfl⟩
   refine ⟨by omega,by omega,?_⟩
   refine eI (fun j ρ=>∃ jv nv,ρ=[some (.int (oQ c),false),some (.int (m:Int),false),some (.str ba,false),some (.int (ig c:Int),false),some (.int (yE c:Int),false),some (.lst (((List.range k).map fun k=>bT c k (ig c)).map .str),true),some (.int (0+(k:Int)),false),some (.str (bT c k j),false),jv,nv]) ⟨_,_,rfl⟩ ?_ ?_
   · rintro j ρ hj ⟨jv,nv,rfl⟩
     have Mx:j < ig c:=by omega
     refine ⟨⟨by decide,by decide⟩,⟨by show (0:Int) < 0+(j:Int)+1; omega,by show 0+(j:Int)+1 < 1073741824; omega⟩,.inl ⟨by show -(2 ^ 64) < 0+(j:Int); omega,by show 0+(j:Int) < 2 ^ 64; omega⟩,?_⟩
     have last:∀ n:Int,n=qP c k j→∃ c',jW ba.cps.toList (n % 26)=some c'∧(bT c k j).length+(Str.mk #[c']).length≤sizeLine∧(bT c k j ++ ⟨#[c']⟩)=bT c k (j+1):=by
      rintro n rfl
      refine ⟨_,pN _,?_,(vD c k j).symm⟩
      rw [ei,sizeLine_eq]
      show j+1≤16777216
      omega
     refine cg (fun h=>?_) (fun h=>?_)
     · have Tt:j=yE c:=by have h:(0:Int)+(j:Int)=(yE c:Int):=h; omega
       obtain ⟨c',h1,h2,h3⟩:=last (oQ c / 49 / (0+(j:Int)+1)+(0+(j:Int)) * (0+(j:Int))+(0+(k:Int))) (by unfold qP; rw [if_pos Tt]; simp only [Int.zero_add])
       exact ⟨by show (0:Int) < 26; decide,fg,c',h1,h2,_,_,by rw [← h3]; rfl⟩
     · have Tt:¬ j=yE c:=fun z=>h (by show (0:Int)+(j:Int)=(yE c:Int); omega)
       obtain ⟨c',h1,h2,h3⟩:=last (oQ c / 49 / (0+(j:Int)+1)+(0+(j:Int)) * (0+(j:Int))) (by unfold qP; rw [if_neg Tt]; simp only [Int.zero_add,Int.add_zero])
       exact ⟨by show (0:Int) < 26; decide,fg,c',h1,h2,_,_,by rw [← h3]; rfl⟩
   · rintro ρ ⟨jv,nv,rfl⟩
     refine ⟨?_,some (.int (0+(k:Int)),false),some (.str (bT c k (ig c)),false),jv,nv,?_⟩
     · rw [bU,bU,CB,sizeLine_eq]; omega
     · rw [List.range_succ,qd,qd]; rfl
 · rintro ρ ⟨kv,wv,jv,nv,rfl⟩
   refine ⟨⟨by decide,by decide⟩,(by show (0:Int) < 3; decide),cg (fun h=>?_) (fun h=>?_)⟩
   · have hc:oQ c / 49 % 3=1:=h
     have e0:jW (((List.range m).map fun k=>bT c k (ig c)).map T.str) 0=some (T.str (bT c 0 (ig c))):=by
      refine aG (j:=0) ?_
      rw [oa,oa,List.getElem?_range (by omega)]
      rfl
     refine ⟨_,e0,⟨by decide,by decide⟩,(by show (0:Int) < 26; decide),fg,_,pN _,?_,1,?_,?_⟩
     · rw [ei,sizeLine_eq]
       show ig c+1≤16777216
       omega
     · unfold w_
       rw [if_pos (by decide),if_pos (by rw [bU,bU,CB]; omega)]
       rfl
     · have e:(cL c m).map T.str=(((List.range m).map fun k=>bT c k (ig c)).map T.str).set 1 (T.str (bT c 0 (ig c) ++ ⟨#[fH (oQ c / 147)]⟩)):=by
        unfold cL
        rw [if_pos hc,List.map_set]
       rw [e] at hq
       exact hq
   · have hc:¬ oQ c / 49 % 3=1:=h
     have e:(cL c m).map T.str=(((List.range m).map fun k=>bT c k (ig c)).map T.str):=by
      unfold cL
      rw [if_neg hc]
     rw [e] at hq
     exact hq
end
def fS (ts:List T) (q:Rt→Prop):Prop:=∃ (n:Int) (ys:List Str),ts=[.int n,.lst (ys.map .str)]∧ys.length=6∧0≤n∧n < 2147483648∧∀ o,cv ys o→q (.vw (jg o))
def Ny (ts:List T) (q:Rt→Prop):Prop:=∃ (n:Int) (ys:List Str),ts=[.int n,.lst (ys.map .str)]∧ys.length=6∧(∀ y∈ys,y.length≤100)∧0≤n∧n < 2147483648∧∀ k,vF ys k→q (.vw (zW k))
def Gz (ts:List T) (q:Rt→Prop):Prop:=∃ (n:Int) (x:Str) (ys:List Str) (pl:Plan),ts=[.int n,.str x,.lst (ys.map .str),.lst (pl.map bb)]∧ys.length=6∧pl≠[]∧pl.length≤3∧(∀ p∈pl,p.2.length≤4)∧x∈ys∧0≤n∧n < 2147483648 ∧
 ∀ f as,fI ys pl (.call x f as)→q (.vw (aN (.call x f as)))
structure Given (ys:List Str) (pl:Plan):Prop where
 y6:ys.length=6
 sm:∀ y∈ys,y.length≤100
 p3:pl.length≤3
 p4:∀ p∈pl,p.2.length≤4
def xV (ts:List T) (q:Rt→Prop):Prop:=∃ (n:Int) (ys:List Str) (pl:Plan),ts=[.int n,.lst (ys.map .str),.lst (pl.map bb)]∧Given ys pl∧0≤n∧n < 2147483648∧∀ r,fI ys pl r→q (.vw (aN r))
section
variable {P:Program} {w:World} {K:PySem.W.Frag} {mg:Str→Option Value} {base:Heap}
abbrev zt:List Str:=["_law_number","_law_words_here"]
theorem nU:aE zt ["_law_number","_law_words_here"] (ak fQ):=⟨rfl,rfl,rfl,by decide +kernel,rfl,by decide +kernel,by decide +kernel⟩
theorem iL {f:Addr} {fd:FuncData} (D:Df K mg "_law_operand" fQ ["_law_number","_law_words_here"] f fd):bX P w K mg base "_law_operand" ["_law_number","_law_words_here"] 1 (bR K 2 fS):=by
 refine D.gA (gN D.F nU rfl fun bZ A outer s H E Ox hr ts q hG=>?_)
 have nd:=nU.nd
 have hu:=bP.gg hr
 refine ⟨_,(ae (aQ (sI (VP.vr (aZ (aa 0) (VP.vr ag))) (VP.vr ag))
    (af (aw (VP.vx (bo (aa 1) (VP.vr (aZ (VP.vr (bc (aa 0) (VP.vr ag))) (VP.vr ag)))))))
    ay)
   (ae (aQ (bQ hu (VP.vr (aZ (aa 0) (VP.vr ag))) (VP.vr ag))
     (af (aw (VP.vx (mf (VP.vr (aZ (VP.vr (bN (VP.vr (e7 (VP.vr (e7 (aa 0) (VP.vr ag))) (VP.vr (j5 (VP.vr ag) (VP.vr ag))))) (aa 0))) (VP.vr (e7 (VP.vr ag) (VP.vr (j5 (VP.vr ag) (VP.vr ag))))))) (VP.vr (j5 (VP.vr ag) (VP.vr ag)))))))
     ay)
   (af (aw (VP.vx (mf (VP.vr (aZ (VP.vr (bc (aa 0) (VP.vr ag))) (VP.vr ag))) (VP.vr ag))))))),fun _=>?_⟩
 obtain ⟨n,ys,rfl,xW,Nz,QA,hq⟩:=hG
 refine ⟨(by show (0:Int) < 3; decide),cg (fun _=>?_) (fun _=>?_)⟩
 · obtain ⟨y,hy,e⟩:=jh xW (n:=n / 3) (m:=4) (by decide) (by decide)
   exact ⟨⟨by decide,by decide⟩,(by show (0:Int) < 4; decide),_,e,hq (.nm y) hy⟩
 · refine ⟨(by show (0:Int) < 15; decide),cg (fun _=>?_) (fun _=>?_)⟩
   · refine ⟨.inr ⟨by decide,by decide⟩,⟨by decide,by decide,by decide⟩,.inl ⟨by show -(2 ^ 64:Int) < n * 1000003; omega,by show n * 1000003 < (2 ^ 64:Int); omega⟩,⟨by decide,by decide,by decide⟩,.inl ⟨by decide,by decide⟩,(by show (0:Int) < 2 * 10 ^ (30:Int).toNat; decide),⟨by decide,by decide,by decide⟩,hq (.nu _) ?_⟩
     show -1000000000000000000000000000000≤(n * 1000003 * 10 ^ (20:Int).toNat+n) % (2 * 10 ^ (30:Int).toNat) - 10 ^ (30:Int).toNat∧(n * 1000003 * 10 ^ (20:Int).toNat+n) % (2 * 10 ^ (30:Int).toNat) - 10 ^ (30:Int).toNat < 1000000000000000000000000000000
     rw [M7]
     have h0:=lT (n * 1000003 * 10 ^ (20:Int).toNat+n) (show (2 * 1000000000000000000000000000000:Int)≠0 by decide)
     have h1:=pd (n * 1000003 * 10 ^ (20:Int).toNat+n) (show (0:Int) < 2 * 1000000000000000000000000000000 by decide)
     exact ⟨by omega,by omega⟩
   · refine ⟨⟨by decide,by decide⟩,(by show (0:Int) < 9; decide),hq (.nu _) ?_⟩
     show -1000000000000000000000000000000≤n / 3 % 9 - 4∧n / 3 % 9 - 4 < 1000000000000000000000000000000
     have h0:=lT (n / 3) (show (9:Int)≠0 by decide)
     have h1:=pd (n / 3) (show (0:Int) < 9 by decide)
     exact ⟨by omega,by omega⟩
abbrev NA:List Str:=["_law_number","_law_words_here"]
theorem Ca:aE NA ["_law_number","_law_words_here"] (ak uo):=⟨rfl,rfl,rfl,by decide +kernel,rfl,by decide +kernel,by decide +kernel⟩
theorem JD {f:Addr} {fd:FuncData} (D:Df K mg "_law_key" uo ["_law_number","_law_words_here"] f fd) (c1:bX P w K mg base "_law_operand" ["_law_number","_law_words_here"] 1 (bR K 2 fS)):bX P w K mg base "_law_key" ["_law_number","_law_words_here"] 2 (bR K 2 Ny):=by
 obtain ⟨hY,gq,bI,bJ,bK,bL⟩:=c1
 refine D.gA (gN D.F Ca rfl fun bZ A outer s H E Ox hr ts q hG=>?_)
 have nd:=Ca.nd
 have hu:=bP.gg hr
 refine ⟨_,(ae (aQ (bQ hu (VP.vr (aZ (aa 0) (VP.vr ag))) (VP.vr ag))
    (af (aw (VP.vx (bN (VP.vr ar) (VP.vr (bo (aa 1) (VP.vr (aZ (VP.vr (bc (aa 0) (VP.vr ag))) (VP.vr ag)))))))))
    ay)
   (af (aw (VP.vx (aD bL (hr.mono (by decide)) (by rfl) bI bJ bK (ab (VP.ve (bc (aa 0) (VP.vr ag))) (ab (ai 1) ah))))))),fun _=>?_⟩
 obtain ⟨n,ys,rfl,xW,Xo,Nz,QA,hq⟩:=hG
 refine ⟨(by show (0:Int) < 2; decide),cg (fun _=>?_) (fun _=>?_)⟩
 · obtain ⟨y,hy,e⟩:=jh xW (n:=n / 2) (m:=2) (by decide) (by decide)
   refine ⟨⟨by decide,by decide⟩,(by show (0:Int) < 2; decide),_,e,?_,hq (.fld y) hy⟩
   rw [S',sizeLine_eq]
   have:=Xo y hy
   omega
 · exact ⟨⟨by decide,by decide⟩,rfl,_,ys,rfl,xW,by show 0≤n / 2; omega,by show n / 2 < 2147483648; omega,fun o ho=>hq (.op o) ho⟩
abbrev JE:List Str:=["_law_number","_law_name","_law_words_here","_law_later","_law_other","_law_parameters","_law_operands","_law_k"]
theorem xX:aE JE ["_law_number","_law_name","_law_words_here","_law_later"] (ak s_call):=⟨rfl,rfl,rfl,by decide +kernel,rfl,by decide +kernel,by decide +kernel⟩
theorem Fe {f:Addr} {fd:FuncData} (D:Df K mg "_law_call" s_call ["_law_number","_law_name","_law_words_here","_law_later"] f fd) (M:JC mg) (c1:bX P w K mg base "_law_operand" ["_law_number","_law_words_here"] 1 (bR K 2 fS)) :
  bX P w K mg base "_law_call" ["_law_number","_law_name","_law_words_here","_law_later"] 2 (bR K 4 Gz):=by
 obtain ⟨hY,gq,bI,bJ,bK,bL⟩:=c1
 refine D.gA (gN D.F xX rfl fun bZ A outer s H E Ox hr ts q hG=>?_)
 have nd:=xX.nd
 have np:∀ {i:Nat},aT ⟨H,[],Ox⟩ i:=kK
 refine ⟨_,(ae (Ia (VP.ve (bo (aa 3) (VP.vr (aZ (aa 0) (VP.vr (ax az aB (by rfl) M.len h_ (aj (aa 3) ao))))))) (gd (n:=2) rfl (br (aI (i:=4) nd rfl (Or.inl rfl) np) (br (aI (i:=5) nd rfl (Or.inl rfl) np) d4))))
   (ae (e8 (i:=6) nd rfl (Or.inl rfl) (VP.vx (cK ah)) np)
   (ae (cU uO rfl (eh (by rfl) M.range (VP.vr (ax az aB (by rfl) M.len h_ (aj (aa 5) ao)))) (aI (i:=7) nd rfl (Or.inl rfl) np)
     (af (aW (du 6 rY rZ aY aV (ab (VP.ve (aD bL (hr.mono (by decide)) (by rfl) bI bJ bK (ab (VP.ve (bc (aa 0) (VP.vr (bN (VP.vr (ax az aB (by rfl) M.len h_ (aj (aa 3) ao))) (aa 7))))) (ab (ai 2) ah)))) ah)))))
   (af (aw (VP.vx (bx (ab (VP.ve ar) (ab (ai 1) (ab (ai 4) (ab (VP.ve (b_ cN dQ (by rfl) M.tuple dc (aj (aa 6) ao))) ah))))))))))),fun _=>?_⟩
 obtain ⟨n,x,ys,pl,rfl,xW,iE,Xp,Tf,hx,Nz,QA,hq⟩:=hG
 have Xq:0 < pl.length:=by cases pl with | nil=>exact absurd rfl iE | cons a r=>simp
 have eL:((pl.map bb).length:Int)=pl.length:=by rw [bU]
 have h0:0≤n % ((pl.map bb).length:Int):=lT n (by omega)
 have h1:n % ((pl.map bb).length:Int) < pl.length:=by rw [eL]; exact pd n (by omega)
 obtain ⟨j,hj⟩:=GK h0
 have VL:j < pl.length:=by omega
 obtain ⟨p,hp⟩:∃ p:Str×List Str,p=pl[j]:=⟨_,rfl⟩
 obtain ⟨fn,ps⟩:=p
 have NB:(fn,ps)∈pl:=by rw [hp]; exact GP VL
 have YH:ps.length≤4:=Tf _ NB
 refine ⟨(by show (0:Int) < ((pl.map bb).length:Int); omega),bb (fn,ps),?_,rfl,?_⟩
 · rw [hj]
   refine aG ?_
   rw [oa,n9 VL,← hp]
   rfl
 refine ⟨rfl,ia _,by omega,by show ((ps.map T.str).length:Int) < 2 ^ 62; rw [bU]; omega,?_⟩
 refine eI (fun k ρ=>∃ kv os as,ρ=[some (.int n,false),some (.str x,false),some (.lst (ys.map .str),false),some (.lst (pl.map bb),false),some (.str fn,false),some (.tup (ps.map .str),false),some (.lst os,true),kv]∧os=as.map jg∧as.length=k∧∀ a∈as,cv ys a)
  ⟨none,[],[],rfl,rfl,rfl,fun _ z=>nomatch z⟩ ?_ ?_
 · rintro k ρ hk ⟨kv,_,as,rfl,rfl,rfl,oj⟩
   have MU:as.length < ps.length:=by rw [bU,Fy] at hk; exact hk
   clear hk
   refine ⟨⟨by show (0:Int) < ((pl.map bb).length:Int)+(0+(as.length:Int)); omega,by show ((pl.map bb).length:Int)+(0+(as.length:Int)) < 1073741824; omega⟩,rfl,_,ys,rfl,xW,?_,?_,fun o ho=>⟨?_,_,_,as ++ [o],rfl,?_,by simp,fun a ha=>?_⟩⟩
   · exact Int.ediv_nonneg Nz (by omega)
   · exact Int.lt_of_le_of_lt (Int.ediv_le_self _ Nz) QA
   · rw [bU,sizeLine_eq]; omega
   · rw [qd]; rfl
   · rcases gD.mp ha with z | z
     · exact oj a z
     · rw [r6.mp z]; exact ho
 · rintro ρ ⟨kv,_,as,rfl,rfl,hlen,oj⟩
   refine ⟨by show 4≤sizeLine; rw [sizeLine_eq]; decide,hq fn as ⟨hx,⟨ps,NB,?_⟩,oj⟩⟩
   rw [hlen,bU]; rfl
end
theorem fits {n:Nat} (h:n≤1001):n < sizeLine:=by rw [sizeLine_eq]; omega
theorem cZ {n:Nat} (h:n≤8):n≤sizeLine:=small (by omega)
def Tu (q:Rt→Prop) (n:Int) (ys:List Str) (pl:Plan) (y z:Str):FS:=fun d ρ=>(∃ wv,ρ=[some (.int n,false),some (.lst (ys.map .str),false),some (.lst (pl.map bb),false),some (.int (n % 13),false),some (.str y,false),some (.str z,false),some (.int (n / 208),false),wv])∧∀ ρ r,q r→d.rt ρ r
def NC:GT:=fun ts q=>∃ (rs:List Rw) (bB:List Str) (c:Int) (ys:List Str) (pl:Plan),ts=[.lst (rs.map aN),.lst (bB.map .str),.int c,.lst (ys.map .str),.lst (pl.map bb)]∧Given ys pl∧rs.length≤1000∧bB.length≤1000 ∧
 ∀ new cV,kb ys pl bB new cV→q [.lst ((rs ++ new).map aN),.lst (cV.map .str)] (.vw .bp)
section
variable {P:Program} {w:World} {K:PySem.W.Frag} {mg:Str→Option Value} {base:Heap}
abbrev Cb:List Str:=["_law_number","_law_words_here","_law_later","_law_kind","_law_name","_law_other","_law_rest","_law_word"]
theorem p8:aE Cb ["_law_number","_law_words_here","_law_later"] (ak g7):=⟨rfl,rfl,rfl,by decide +kernel,rfl,by decide +kernel,by decide +kernel⟩
theorem zu {f:Addr} {fd:FuncData} (D:Df K mg "_law_simple" g7 ["_law_number","_law_words_here","_law_later"] f fd) (c1:bX P w K mg base "_law_operand" ["_law_number","_law_words_here"] 1 (bR K 2 fS))
  (c2:bX P w K mg base "_law_key" ["_law_number","_law_words_here"] 2 (bR K 2 Ny)) (c3:bX P w K mg base "_law_call" ["_law_number","_law_name","_law_words_here","_law_later"] 2 (bR K 4 Gz)) :
  bX P w K mg base "_law_simple" ["_law_number","_law_words_here","_law_later"] 3 (bR K 3 xV):=by
 obtain ⟨hY,gq,bI,bJ,bK,bL⟩:=c1
 obtain ⟨VM,Tv,GA,GB,GC,GD⟩:=c2
 obtain ⟨Tw,QB,JF,JG,JH,JI⟩:=c3
 refine D.gA (gN D.F p8 rfl fun bZ A outer s H E Ox hr ts q hG=>?_)
 have nd:=p8.nd
 have hu:=bP.gg hr
 have np:∀ {i:Nat},aT ⟨H,[],Ox⟩ i:=kK
 obtain ⟨n,ys,pl,rfl,G,Nz,QA,hq⟩:=hG
 obtain ⟨y,hy,ey⟩:=jh G.y6 (n:=n / 13) (m:=4) (by decide) (by decide)
 obtain ⟨z,hz,ez⟩:=jh G.y6 (n:=n / 52) (m:=4) (by decide) (by decide)
 refine ⟨_,(ae (aS (i:=3) nd rfl (Or.inl rfl) (VP.vx (aZ (aa 0) (VP.vr ag))) np)
   (ae (aS (i:=4) nd rfl (Or.inl rfl) (VP.vx (bo (aa 1) (VP.vr (aZ (VP.vr (bc (aa 0) (VP.vr ag))) (VP.vr ag))))) np)
   (ae (aS (i:=5) nd rfl (Or.inl rfl) (VP.vx (bo (aa 1) (VP.vr (aZ (VP.vr (bc (aa 0) (VP.vr ag))) (VP.vr ag))))) np)
   (ae (aS (i:=6) nd rfl (Or.inl rfl) (VP.vx (bc (aa 0) (VP.vr ag))) np)
   (ae (aQ (ir (aa 3) (VP.vr ag))
     (af (aw (VP.vx (bx (ab (VP.ve ar) (ab (ai 4) (ab (VP.ve (aD bL (hr.mono (by decide)) (by rfl) bI bJ bK (ab (ai 6) (ab (ai 1) ah)))) ah)))))))
     ay)
   (ae (aQ (ir (aa 3) (VP.vr ag))
     (ae (aS (i:=7) nd rfl (Or.inl rfl) (VP.vx (bo (VP.vr (cK (ab (VP.ve ar) (ab (VP.ve ar) (ab (VP.ve ar) (ab (VP.ve ar) (ab (VP.ve ar) (ab (VP.ve ar) (ab (VP.ve ar) ah))))))))) (VP.vr (aZ (aa 6) (VP.vr ag))))) np)
     (af (aw (VP.vx (bx (ab (VP.ve ar) (ab (ai 4) (ab (VP.ve (aD bL (hr.mono (by decide)) (by rfl) bI bJ bK (ab (VP.ve (bc (aa 6) (VP.vr ag))) (ab (ai 1) ah)))) (ab (ai 7) (ab (VP.ve (aD bL (hr.mono (by decide)) (by rfl) bI bJ bK (ab (VP.ve (bc (aa 6) (VP.vr ag))) (ab (ai 1) ah)))) ah))))))))))
     ay)
   (ae (aQ (bQ hu (aa 3) (VP.vr ag))
     (af (aw (VP.vx (bx (ab (VP.ve ar) (ab (ai 4) ah))))))
     ay)
   (ae (aQ (ir (aa 3) (VP.vr ag))
     (af (aw (VP.vx (bx (ab (VP.ve ar) (ab (ai 4) (ab (ai 5) (ab (VP.ve (aD GD (hr.mono (by decide)) (by rfl) GA GB GC (ab (ai 6) (ab (ai 1) ah)))) ah))))))))
     ay)
   (ae (aQ (ir (aa 3) (VP.vr ag))
     (af (aw (VP.vx (bx (ab (VP.ve ar) (ab (ai 5) (ab (VP.ve (aD GD (hr.mono (by decide)) (by rfl) GA GB GC (ab (ai 6) (ab (ai 1) ah)))) (ab (VP.ve (aD bL (hr.mono (by decide)) (by rfl) bI bJ bK (ab (VP.ve (bc (aa 6) (VP.vr ag))) (ab (ai 1) ah)))) ah))))))))
     ay)
   (ae (aQ (VW.vc (dY (bQ hu (aa 3) (VP.vr ag)) (c9 (gK hu (aa 2) (VP.vr (cK ah))))))
     (af (aw (VP.vx (aD JI (hr.mono (by decide)) (by rfl) JF JG JH (ab (ai 6) (ab (ai 4) (ab (ai 1) (ab (ai 2) ah))))))))
     ay)
   (lF.weak (u:=(Tu q n ys pl y z)) (ae (aQ (VW.vc (dY (bQ hu (aa 3) (VP.vr ag)) (c9 (bQ hu (VP.vr (aZ (aa 6) (VP.vr ag))) (VP.vr ag)))))
     (af (aw (VP.vx (bx (ab (VP.ve ar) (ab (VP.ve (bo (aa 1) (VP.vr (bN (VP.vr ag) (VP.vr (aZ (VP.vr (bc (aa 6) (VP.vr ag))) (VP.vr ag))))))) ah))))))
     ay)
   (ae (aQ (VW.vc (dY (bQ hu (aa 3) (VP.vr ag)) (c9 (bQ hu (VP.vr (aZ (aa 6) (VP.vr ag))) (VP.vr ag)))))
     (af (aw (VP.vx (bx (ab (VP.ve ar) ah)))))
     ay)
   (af (aw (VP.vx (bx (ab (VP.ve ar) (ab (ai 4) (ab (ai 5) ah))))))))) ?w_cutS))))))))))),fun _=>?_⟩
 case w_cutS =>
  rintro d ρ ⟨⟨wv,rfl⟩,kk⟩
  have fin:=kk
  refine cg (fun _=>?_) (fun _=>?_)
  · refine ⟨(by show (0:Int) < 3; decide),cg (fun _=>?_) (fun _=>?_)⟩
    · obtain ⟨x,hx,ex⟩:=IV G.y6 (n / 208 / 3)
      exact ⟨⟨by decide,by decide⟩,(by show (0:Int) < 2; decide),_,ex,cZ (by simp),kk _ _ (hq (.fail x) hx)⟩
    · refine cg (fun _=>?_) (fun _=>⟨cZ (by simp),kk _ _ (hq (.put y (.nm z)) ⟨hy,hz⟩)⟩)
      exact ⟨(by show (0:Int) < 2; decide),cg (fun _=>⟨cZ (by simp),kk _ _ (hq .skip trivial)⟩) (fun _=>⟨cZ (by simp),kk _ _ (hq (.put y (.nm z)) ⟨hy,hz⟩)⟩)⟩
  · refine d5 rfl (cg (fun _=>?_) (fun _=>d5 rfl ⟨cZ (by simp),kk _ _ (hq (.put y (.nm z)) ⟨hy,hz⟩)⟩))
    exact ⟨(by show (0:Int) < 2; decide),cg (fun _=>⟨cZ (by simp),kk _ _ (hq .skip trivial)⟩) (fun _=>⟨cZ (by simp),kk _ _ (hq (.put y (.nm z)) ⟨hy,hz⟩)⟩)⟩
 have m0:0≤n / 208:=by omega
 have m1:n / 208 < 2147483648:=by omega
 have dv:∀ e:Int,0 < e→0≤n / 208 / e∧n / 208 / e < 2147483648:=fun e he=>⟨Int.ediv_nonneg m0 (by omega),Int.lt_of_le_of_lt (Int.ediv_le_self _ m0) m1⟩
 refine ⟨(by show (0:Int) < 13; decide),⟨by decide,by decide⟩,(by show (0:Int) < 4; decide),_,ey,⟨by decide,by decide⟩,(by show (0:Int) < 4; decide),_,ez,⟨by decide,by decide⟩,?_⟩
 refine cg (fun _=>?_) (fun _=>?_)
 · exact ⟨rfl,_,ys,rfl,G.y6,m0,m1,fun o ho=>⟨cZ (by simp),hq (.put y o) ⟨hy,ho⟩⟩⟩
 refine cg (fun _=>?_) (fun _=>?_)
 · obtain ⟨op,Xr,Xs⟩:=M_ (n / 208)
   exact ⟨cZ (by simp),(by show (0:Int) < 7; decide),_,Xs,⟨by decide,by decide⟩,rfl,_,ys,rfl,G.y6,(dv 7 (by decide)).1,(dv 7 (by decide)).2,fun o ho=>⟨⟨by decide,by decide⟩,rfl,_,ys,rfl,G.y6,(dv 420 (by decide)).1,(dv 420 (by decide)).2,fun o2 zQ=>⟨cZ (by simp),hq (.xB y o op o2) ⟨hy,ho,Xr,zQ⟩⟩⟩⟩
 refine cg (fun _=>⟨cZ (by simp),hq (.new y) hy⟩) (fun _=>?_)
 refine cg (fun _=>?_) (fun _=>?_)
 · exact ⟨rfl,_,ys,rfl,G.y6,G.sm,m0,m1,fun k hk=>⟨cZ (by simp),hq (.get y z k) ⟨hy,hz,hk⟩⟩⟩
 refine cg (fun _=>?_) (fun _=>?_)
 · exact ⟨rfl,_,ys,rfl,G.y6,G.sm,m0,m1,fun k hk=>⟨⟨by decide,by decide⟩,rfl,_,ys,rfl,G.y6,(dv 90 (by decide)).1,(dv 90 (by decide)).2,fun o ho=>⟨cZ (by simp),hq (.set z k o) ⟨hz,hk,ho⟩⟩⟩⟩
 refine cg (fun _=>?_) (fun _=>d5 rfl ⟨⟨_,rfl⟩,fun _ _ h=>h⟩)
 refine ⟨ia _,tD pl,rfl,yF pl,?_⟩
 cases pl with
 | nil=>exact d5 rfl ⟨⟨_,rfl⟩,fun _ _ h=>h⟩
 | cons p pl=>exact yu rfl ⟨rfl,_,y,ys,p :: pl,rfl,G.y6,by simp,G.p3,G.p4,hy,m0,m1,fun fn as hs=>hq _ hs⟩
end
def Cc (q:List T→Rt→Prop) (rs:List Rw) (bB:List Str) (c n mv:Int) (ys:List Str) (pl:Plan):FS:=fun d ρ=>(∃ nv,ρ=[some (.lst (rs.map aN),true),some (.lst (bB.map .str),true),some (.int c,false),some (.lst (ys.map .str),false),some (.lst (pl.map bb),false),some (.int n,false),some (.int mv,false),nv]) ∧
 ∀ ρ,q (oC [true,true,false,false,false] ρ) (.vw .bp)→d.nx ρ
theorem nV (l:List Str):plainT (.lst (l.map .str))=true:=by simp only [plainT]; exact cW (fun _=>by simp [plainT]) l
theorem uv (l:List Str):dep (.lst (l.map .str))≤100:=by have:=eK (f:=T.str) (n:=0) (fun _=>by simp [dep]) l; simp only [dep]; omega
section
variable {P:Program} {w:World} {K:PySem.W.Frag} {mg:Str→Option Value} {base:Heap}
abbrev ND:List Str:=["_law_rows","_law_stack","_law_cell","_law_words_here","_law_later","_law_number","_law_move","_law_name"]
theorem Cd:aE ND ["_law_rows","_law_stack","_law_cell","_law_words_here","_law_later"] (ak uq):=⟨rfl,rfl,rfl,by decide +kernel,rfl,by decide +kernel,by decide +kernel⟩
theorem JJ {f:Addr} {fd:FuncData} (D:Df K mg "_law_lay" uq ["_law_rows","_law_stack","_law_cell","_law_words_here","_law_later"] f fd) (M:JC mg) (c1:bX P w K mg base "_law_operand" ["_law_number","_law_words_here"] 1 (bR K 2 fS))
  (c2:bX P w K mg base "_law_simple" ["_law_number","_law_words_here","_law_later"] 3 (bR K 3 xV)) :
  bX P w K mg base "_law_lay" ["_law_rows","_law_stack","_law_cell","_law_words_here","_law_later"] 4 (qv K [true,true,false,false,false] NC):=by
 obtain ⟨hY,gq,bI,bJ,bK,bL⟩:=c1
 obtain ⟨NF,K4,Ce,Cf,Cg,Ci⟩:=c2
 refine D.gA (Sq D.F Cd rfl fun bZ A outer s H E as Ox hr ts q hl hG=>?_)
 have nd:=Cd.nd
 have hu:=bP.gg hr
 obtain ⟨rs,bB,c,ys,pl,rfl,G,YI,YJ,hq⟩:=hG
 have n0:0≤c / 8 * 48271 % 2147483647:=lT _ (by decide)
 have n1:c / 8 * 48271 % 2147483647 < 2147483647:=pd _ (by decide)
 have n2:c / 8 * 48271 % 2147483647 < 2147483648:=by omega
 have d3:0≤c / 8 * 48271 % 2147483647 / 3∧c / 8 * 48271 % 2147483647 / 3 < 2147483648:=⟨by omega,by omega⟩
 have zw:(rs.map aN).length < sizeLine:=by rw [bU]; exact fits (by omega)
 have NG:(bB.map T.str).length < sizeLine:=by rw [bU]; exact fits (by omega)
 have one:∀ {r:Rw} {cV:List Str},kb ys pl bB [r] cV→q [.lst (rs.map aN ++ [aN r]),.lst (cV.map .str)] (.vw .bp):=fun {r cV} h=>by
  have:=hq [r] cV h
  rw [qd] at this
  exact this
 have push:∀ x:Str,(bB ++ [x]).map T.str=bB.map T.str ++ [T.str x]:=fun x=>by rw [qd]; rfl
 refine ⟨_,(ae (aS (i:=5) nd rfl (Or.inl rfl) (VP.vx (aZ (VP.vr (e7 (VP.vr (bc (aa 2) (VP.vr ag))) (VP.vr ag))) (VP.vr ag))) (A5 (by decide)))
   (ae (aS (i:=6) nd rfl (Or.inl rfl) (VP.vx (aZ (aa 2) (VP.vr ag))) (A5 (by decide)))
   (lF.weak (u:=(Cc q rs bB c (c / 8 * 48271 % 2147483647) (c % 8) ys pl)) (af (aQ (VW.vc (dY (bQ hu (aa 6) (VP.vr ag)) (c9 (ir (VP.vr (ax az aB (by rfl) M.len h_ (aj (aa 1) ao))) (VP.vr ag)))))
     (ae (aW (du 0 rY rZ aY aV (ab (VP.ve (bx (ab (VP.ve ar) (ab (VP.ve (aD bL (hr.mono (by decide)) (by rfl) bI bJ bK (ab (ai 5) (ab (ai 3) ah)))) ah)))) ah)))
     (af (aW (du 1 rY rZ aY aV (ab (VP.ve ar) ah)))))
     (lF.weak (u:=(Cc q rs bB c (c / 8 * 48271 % 2147483647) (c % 8) ys pl)) (af (aQ (VW.vc (dY (bQ hu (aa 6) (VP.vr ag)) (c9 (ir (VP.vr (ax az aB (by rfl) M.len h_ (aj (aa 1) ao))) (VP.vr ag)))))
       (ae (aW (du 1 rY rZ aY aV (ab (VP.ve ar) ah)))
       (af (aQ (bQ hu (VP.vr (aZ (aa 5) (VP.vr ag))) (VP.vr ag))
         (af (aW (du 0 rY rZ aY aV (ab (VP.ve (bx (ab (VP.ve ar) (ab (VP.ve (aD bL (hr.mono (by decide)) (by rfl) bI bJ bK (ab (VP.ve (bc (aa 5) (VP.vr ag))) (ab (ai 3) ah)))) ah)))) ah))))
         (ae (aS (i:=7) nd rfl (Or.inl rfl) (VP.vx (bo (aa 3) (VP.vr (aZ (VP.vr (bc (aa 5) (VP.vr ag))) (VP.vr ag))))) (A5 (by decide)))
         (ae (aW (du 0 rY rZ aY aV (ab (VP.ve (bx (ab (VP.ve ar) (ab (ai 7) ah)))) ah)))
         (af (aW (du 0 rY rZ aY aV (ab (VP.ve (bx (ab (VP.ve ar) (ab (ai 7) (ab (ai 7) (ab (VP.ve ar) (ab (VP.ve ag) ah))))))) ah)))))))))
       (lF.weak (u:=(Cc q rs bB c (c / 8 * 48271 % 2147483647) (c % 8) ys pl)) (af (aQ (VW.vc (dY (bQ hu (aa 6) (VP.vr ag)) (dY (gK hu (aa 1) (VP.vr (cK ah))) (c9 (bQ hu (VP.vr (bo (aa 1) (VP.vr (iI (VP.vr ag))))) (VP.vr ar))))))
         (ae (aW (du 0 rY rZ aY aV (ab (VP.ve (bx (ab (VP.ve ar) ah))) ah)))
         (af (vg 1 (VP.ve ar) (VP.vr (iI (VP.vr ag))))))
         (lF.weak (u:=(Cc q rs bB c (c / 8 * 48271 % 2147483647) (c % 8) ys pl)) (af (aQ (VW.vc (dY (bQ hu (aa 6) (VP.vr ag)) (c9 (gK hu (aa 1) (VP.vr (cK ah))))))
           (ae (aW (du 0 rY rZ aY aV (ab (VP.ve (bx (ab (VP.ve ar) ah))) ah)))
           (af (aW (vf 1 PySem.F.slot_list_pop PySem.F.type_list_pop Ay xp))))
           (lF.weak (u:=(Cc q rs bB c (c / 8 * 48271 % 2147483647) (c % 8) ys pl)) (af (aW (du 0 rY rZ aY aV (ab (VP.ve (aD Ci (hr.mono (by decide)) (by rfl) Ce Cf Cg (ab (ai 5) (ab (ai 3) (ab (ai 4) ah))))) ah)))) ?w5))) ?w4))) ?w3))) ?w2))) ?w1))),?_⟩
 case w5 =>
  rintro d ρ ⟨⟨nv,rfl⟩,kk⟩
  exact ⟨rfl,_,ys,pl,rfl,G,n0,n2,fun r hs=>⟨zw,kk _ (one (.inr (.inr (.inr (.inr (.inr ⟨r,hs,rfl,rfl⟩))))))⟩⟩
 case w4 =>
  rintro d ρ ⟨⟨nv,rfl⟩,kk⟩
  refine cg (fun _=>?_) (fun _=>d5 rfl ⟨⟨nv,rfl⟩,kk⟩)
  refine ⟨ia _,nV bB,rfl,uv bB,?_⟩
  rcases PZ bB with e | ⟨s0,x,e⟩
  · subst e; exact d5 rfl ⟨⟨nv,rfl⟩,kk⟩
  · have en:eqT (.lst (bB.map .str)) (.lst [])=false:=by rw [e]; cases s0 <;> simp [eqT,eE]
    refine yu (by show (!eqT (.lst (bB.map .str)) (.lst []))=true; rw [en]; rfl) ⟨cZ (by simp),zw,rfl,T.str x,?_,?_⟩
    · rw [e]; simp
    · have e2:(bB.map T.str).dropLast=s0.map T.str:=by rw [e]; simp
      refine kk _ ?_
      show q [.lst (rs.map aN ++ [aN .fin]),.lst ((bB.map T.str).dropLast)] _
      rw [e2]
      exact one (.inr (.inr (.inr (.inr (.inl ⟨s0,x,by rw [e,QK],rfl,rfl⟩)))))
 case w3 =>
  rintro d ρ ⟨⟨nv,rfl⟩,kk⟩
  refine cg (fun _=>?_) (fun _=>d5 rfl ⟨⟨nv,rfl⟩,kk⟩)
  refine ⟨ia _,nV bB,rfl,uv bB,?_⟩
  rcases PZ bB with e | ⟨s0,x,e⟩
  · subst e; exact d5 rfl (d5 rfl ⟨⟨nv,rfl⟩,kk⟩)
  · have en:eqT (.lst (bB.map .str)) (.lst [])=false:=by rw [e]; cases s0 <;> simp [eqT,eE]
    have ex:jW (bB.map T.str) (-1)=some (T.str x):=by rw [e,QK,qd]; exact si _ _
    refine yu (by show (!eqT (.lst (bB.map .str)) (.lst []))=true; rw [en]; rfl) ⟨_,ex,cg (fun hx=>?_) (fun _=>⟨⟨nv,rfl⟩,kk⟩)⟩
    have KN:x="if":=hx
    subst KN
    have Ej:(bB.map T.str).length=s0.length+1:=by rw [e]; simp
    refine ⟨cZ (by simp),zw,s0.length,?_,kk _ ?_⟩
    · unfold w_
      rw [Ej,if_neg (by decide),if_pos (by omega)]
      congr 1
      omega
    · have e2:(bB.map T.str).set s0.length (T.str "else")=(s0 ++ ([("else" : Str)]:List Str)).map T.str:=by rw [e]; simp
      show q [.lst (rs.map aN ++ [aN .M6]),.lst ((bB.map T.str).set s0.length (T.str "else"))] _
      rw [e2]
      exact one (.inr (.inr (.inr (.inl ⟨s0,by rw [e]; simp,rfl,rfl⟩))))
 case w2 =>
  rintro d ρ ⟨⟨nv,rfl⟩,kk⟩
  refine cg (fun _=>?_) (fun _=>d5 rfl ⟨⟨nv,rfl⟩,kk⟩)
  refine cg (fun _=>?_) (fun _=>⟨⟨nv,rfl⟩,kk⟩)
  refine ⟨NG,(by show (0:Int) < 3; decide),cg (fun _=>?_) (fun _=>?_)⟩
  · refine ⟨⟨by decide,by decide⟩,rfl,_,ys,rfl,G.y6,d3.1,d3.2,fun o ho=>⟨cZ (by simp),zw,kk _ ?_⟩⟩
    have:=one (r:=.uL o) (.inr (.inl ⟨o,ho,rfl,rfl⟩))
    rw [push] at this
    exact this
  · obtain ⟨y,hy,ey⟩:=jh G.y6 (n:=c / 8 * 48271 % 2147483647 / 3) (m:=4) (by decide) (by decide)
    refine ⟨⟨by decide,by decide⟩,(by show (0:Int) < 4; decide),_,ey,cZ (by simp),zw,cZ (by simp),?_,kk _ ?_⟩
    · rw [kS,bU]; exact fits (by simp; omega)
    · have:=hq [.uL (.nm y),.xB y (.nm y) "minus" (.nu 1)] _ (.inr (.inr (.inl ⟨y,hy,rfl,rfl⟩)))
      rw [push,qd] at this
      show q [.lst ((rs.map aN ++ [aN (.uL (.nm y))]) ++ [aN (.xB y (.nm y) "minus" (.nu 1))]),_] _
      rw [GN]
      exact this
 case w1 =>
  rintro d ρ ⟨⟨nv,rfl⟩,kk⟩
  refine cg (fun _=>?_) (fun _=>d5 rfl ⟨⟨nv,rfl⟩,kk⟩)
  refine cg (fun _=>?_) (fun _=>⟨⟨nv,rfl⟩,kk⟩)
  refine ⟨rfl,_,ys,rfl,G.y6,n0,n2,fun o ho=>⟨cZ (by simp),zw,NG,kk _ ?_⟩⟩
  have:=one (r:=.CO o) (.inl ⟨o,ho,rfl,rfl⟩)
  rw [push] at this
  exact this
 exact ⟨⟨by decide,by decide⟩,.inr ⟨by decide,by decide⟩,(by show (0:Int) < 2147483647; decide),(by show (0:Int) < 8; decide),⟨none,rfl⟩,fun _ h=>h⟩
end
def GF (ts:List T) (q:Rt→Prop):Prop:=∃ (c:Int) (ys:List Str),ts=[.int c,.lst (ys.map .str)]∧ys.length=6∧∀ pl,kc ys pl→1≤pl.length→pl.length≤3→q (.fr (.lst (pl.map bb)))
section
variable {P:Program} {w:World} {K:PySem.W.Frag} {mg:Str→Option Value} {base:Heap}
abbrev Cj:List Str:=["_law_cell","_law_words_here","_law_number","_law_plan_here","_law_k","_law_parameters"]
theorem xY:aE Cj ["_law_cell","_law_words_here"] (ak nQ):=⟨rfl,rfl,rfl,by decide +kernel,rfl,by decide +kernel,by decide +kernel⟩
theorem wA:(Cj ++ (["_law_j"]:List Str)).Nodup:=by decide +kernel
theorem Ff {f:Addr} {fd:FuncData} (D:Df K mg "_law_plan" nQ ["_law_cell","_law_words_here"] f fd) (M:JC mg):bX P w K mg base "_law_plan" ["_law_cell","_law_words_here"] 1 (bR K 2 GF):=by
 refine D.gA (gN D.F xY rfl fun bZ A outer s H E Ox hr ts q hG=>?_)
 have nd:=xY.nd
 have np:∀ {i:Nat},aT ⟨H,[],Ox⟩ i:=kK
 refine ⟨_,(ae (aS (i:=2) nd rfl (Or.inr rfl) (VP.vx (aZ (aa 0) (VP.vr (j5 (VP.vr ag) (VP.vr ag))))) np)
   (ae (e8 (i:=3) nd rfl (Or.inl rfl) (VP.vx (cK ah)) np)
   (ae (cU uO rfl (eh (by rfl) M.range (VP.vr (bN (VP.vr ag) (VP.vr (aZ (aa 2) (VP.vr ag)))))) (aI (i:=4) nd rfl (Or.inl rfl) np)
     (ae (aS (i:=2) nd rfl (Or.inr rfl) (VP.vx (aZ (VP.vr (bN (VP.vr (bN (VP.vr (e7 (aa 2) (aa 2))) (VP.vr (e7 (VP.vr ag) (aa 2))))) (aa 4))) (VP.vr ag))) np)
     (ae (qu (i:=5) (ts:=["_law_j"]) nd rfl (Or.inl rfl) rfl (by rfl) (eh (by rfl) M.range (VP.vr (aZ (aa 2) (VP.vr ag)))) (fun _ _ _ _ _ _=>(aI (i:=6) wA rfl (Or.inl rfl) np)) (fun _ _ _ _ _ _=>cC) (fun _ _ _ _ _ _=>(VP.ve (bo (aa 1) (VP.vr (aZ (VP.vr (bN (VP.vr (bc (aa 2) (VP.vr ag))) (aa 6))) (VP.vr ag)))))) np)
     (af (aW (du 3 rY rZ aY aV (ab (VP.ve (bx (ab (VP.ve (bo (aa 1) (aa 4))) (ab (VP.ve (b_ cN dQ (by rfl) M.tuple dc (aj (aa 5) ao))) ah)))) ah)))))))
   (af (aw (i7 3 np)))))),fun _=>?_⟩
 obtain ⟨c,ys,rfl,xW,hq⟩:=hG
 refine ⟨⟨by decide,by decide,by decide⟩,(by show (0:Int) < 10 ^ (9:Int).toNat; decide),ia _,(by show (0:Int) < 3; decide),?_⟩
 have m0:0≤c % (10:Int) ^ (9:Int).toNat:=lT _ (by decide)
 have m1:c % (10:Int) ^ (9:Int).toNat < 1000000000:=by rw [M8]; exact pd _ (by decide)
 have t0:0≤c % (10:Int) ^ (9:Int).toNat % 3:=lT _ (by decide)
 have t1:c % (10:Int) ^ (9:Int).toNat % 3 < 3:=pd _ (by decide)
 refine ⟨(by show -(2 ^ 62:Int)≤1+c % 10 ^ (9:Int).toNat % 3; omega),(by show 1+c % 10 ^ (9:Int).toNat % 3 < (2 ^ 62:Int); omega),?_⟩
 refine eI (fun k ρ=>∃ n kv pv ts pl,ρ=[some (.int c,false),some (.lst (ys.map .str),false),some (.int n,false),some (.lst ts,true),kv,pv]∧ts=pl.map bb∧0≤n∧n < 2147483648∧pl.length=k∧kc ys pl)
  ⟨_,none,none,_,[],rfl,rfl,m0,by omega,rfl,fun k f ps e=>by simp at e⟩ ?_ ?_
 · rintro k ρ hk ⟨n,kv,pv,_,pl,rfl,rfl,p0,p1,rfl,bA⟩
   have Xu:pl.length < 3:=by omega
   refine ⟨.inl ⟨by omega,by omega⟩,.inl ⟨by decide,by decide⟩,(by show (0:Int) < 2147483647; decide),rfl,(by show (0:Int) < 3; decide),?_⟩
   have g0:0≤(n * n+48271 * n+(0+(pl.length:Int))) % 2147483647:=lT _ (by decide)
   have g1:(n * n+48271 * n+(0+(pl.length:Int))) % 2147483647 < 2147483647:=pd _ (by decide)
   have u0:0≤(n * n+48271 * n+(0+(pl.length:Int))) % 2147483647 % 3:=lT _ (by decide)
   have u1:(n * n+48271 * n+(0+(pl.length:Int))) % 2147483647 % 3 < 3:=pd _ (by decide)
   refine ⟨(by show -(2 ^ 62:Int)≤(n * n+48271 * n+(0+(pl.length:Int))) % 2147483647 % 3; omega),(by show (n * n+48271 * n+(0+(pl.length:Int))) % 2147483647 % 3 < (2 ^ 62:Int); omega),?_⟩
   refine ⟨by rw [mE]; exact small (by show ((n * n+48271 * n+(0+(pl.length:Int))) % 2147483647 % 3).toNat≤1000; omega),?_⟩
   refine fG (fun _=>true) (fun t=>match t with | .int j=>.str (ys.getD (((n * n+48271 * n+(0+(pl.length:Int))) % 2147483647 / 3+j) % 4).toNat Str.empty) | _=>.bp) ?_ ?_
   · intro t ht _ r hr
     obtain ⟨i,hi,e⟩:=List.mem_iff_getElem.mp ht
     obtain ⟨_,rfl⟩:=mG (by rw [n9 hi,e]:(rangeT _ _)[i]?=some t)
     rw [if_pos rfl] at hr
     exact ⟨⟨by decide,by decide⟩,(by show (0:Int) < 4; decide),_,Bk xW _,hr⟩
   · generalize UW:(n * n+48271 * n+(0+(pl.length:Int))) % 2147483647=n' at g0 g1 u0 u1
     have VN:pl.length < ys.length:=by omega
     have ek:jW (ys.map T.str) (0+(pl.length:Int))=some (T.str ys[pl.length]):=by
      rw [Int.zero_add]
      refine aG ?_
      rw [oa,n9 VN]
      rfl
     have Xv:(((rangeT 0 (n' % 3).toNat).filter fun _=>true).map fun t=>match t with | .int j=>T.str (ys.getD ((n' / 3+j) % 4).toNat Str.empty) | _=>.bp)=((List.range (n' % 3).toNat).map fun j=>ys.getD ((n' / 3+((j:Nat):Int)) % 4).toNat Str.empty).map T.str:=by
      unfold rangeT
      rw [PM.mpr (fun _ _=>rfl),x6,x6]
      apply List.map_congr_left
      intro j _
      show T.str (ys.getD ((n' / 3+(0+(j:Int))) % 4).toNat Str.empty)=T.str (ys.getD ((n' / 3+(j:Int)) % 4).toNat Str.empty)
      rw [Int.zero_add]
     rw [Xv]
     refine ⟨_,ek,cZ (by simp),by rw [bU]; exact fits (by omega),n',_,_,_,pl ++ [(ys[pl.length],(List.range (n' % 3).toNat).map fun j=>ys.getD ((n' / 3+((j:Nat):Int)) % 4).toNat Str.empty)],rfl,?_,g0,by omega,by simp,?_⟩
     · rw [qd]; rfl
     · intro k' f' CP e
       by_cases fz:k' < pl.length
       · rw [qc fz] at e
         exact bA k' f' CP e
       · by_cases he:k'=pl.length
         · subst he
           rw [wN (dH _),Nat.sub_self] at e
           simp only [K',Option.some.injEq,Prod.mk.injEq] at e
           obtain ⟨e1,e2⟩:=e
           subst e1 e2
           exact ⟨n9 VN,n' / 3,(n' % 3).toNat,by omega,rfl⟩
         · rw [List.getElem?_eq_none (by simp; omega)] at e
           cases e
 · rintro ρ ⟨n,kv,pv,_,pl,rfl,rfl,p0,p1,hlen,bA⟩
   exact hq pl bA (by omega) (by omega)
end
def uw (ts:List T) (q:Rt→Prop):Prop:=∃ (ns:List Int) (ys:List Str) (pl:Plan),ts=[.lst (ns.map .int),.lst (ys.map .str),.lst (pl.map bb)]∧ns.length≤63∧Given ys pl∧1≤pl.length ∧
 ∀ rs,Pre ys pl pl.length rs→rs.length≤60→q (.fr (.lst (rs.map aN)))
theorem xZ {α:Type} (f:α→T) (ns:List α) (lo hi:Option Int):∃ ms:List α,gc (ns.map f) lo hi=ms.map f∧ms.length≤ns.length:=by
 unfold gc
 rw [bU,← List.map_drop,← List.map_take]
 refine ⟨_,rfl,?_⟩
 rw [Fz,Kv]
 omega
theorem Ck {α:Type} (f:α→T) (ts:List α) (k:Nat) (h:k≤ts.length):gc (ts.map f) (some (k:Int)) none=(ts.drop k).map f:=by
 unfold gc
 rw [bU,HT.g_,HT.l6,Nat.min_eq_left h,← List.map_drop,← List.map_take,QU (by rw [Kv]; omega)]
theorem ints_map:∀ ms:List Int,intsOf (ms.map T.int)=some ms
 | []=>rfl
 | m :: ms=>by simp only [fu,intsOf,ints_map ms]; rfl
section
variable {P:Program} {w:World} {K:PySem.W.Frag} {mg:Str→Option Value} {base:Heap}
abbrev zx:List Str:=["_law_cells","_law_words_here","_law_plan_here","_law_rows","_law_k","_law_stack","_law_start","_law_stop","_law_share","_law_cell","_law_word"]
theorem nW:aE zx ["_law_cells","_law_words_here","_law_plan_here"] (ak fR):=⟨rfl,rfl,rfl,by decide +kernel,rfl,by decide +kernel,by decide +kernel⟩
theorem wB {f:Addr} {fd:FuncData} (D:Df K mg "_law_program" fR ["_law_cells","_law_words_here","_law_plan_here"] f fd) (M:JC mg) (c1:bX P w K mg base "_law_operand" ["_law_number","_law_words_here"] 1 (bR K 2 fS))
  (c2:bX P w K mg base "_law_lay" ["_law_rows","_law_stack","_law_cell","_law_words_here","_law_later"] 4 (qv K [true,true,false,false,false] NC)) :
  bX P w K mg base "_law_program" ["_law_cells","_law_words_here","_law_plan_here"] 5 (bR K 3 uw):=by
 obtain ⟨hY,gq,bI,bJ,bK,bL⟩:=c1
 obtain ⟨VQ,Tx,NH,NI,NJ,NK⟩:=c2
 refine D.gA (gN D.F nW rfl fun bZ A outer s H E Ox hr ts q hG=>?_)
 have nd:=nW.nd
 have hu:=bP.gg hr
 have np:∀ {i:Nat},aT ⟨H,[],Ox⟩ i:=kK
 have Tq:∀ {is:List Nat},∀ i∈is,aT ⟨H,[],Ox⟩ i:=fun i _=>kK
 obtain ⟨ns,ys,pl,rfl,RG,G,W4,hq⟩:=hG
 refine ⟨_,(ae (e8 (i:=3) nd rfl (Or.inl rfl) (VP.vx (cK ah)) np)
   (ae (cU uO rfl (eh (by rfl) M.range (VP.vr (ax az aB (by rfl) M.len h_ (aj (aa 2) ao)))) (aI (i:=4) nd rfl (Or.inl rfl) np)
     (ae (aW (du 3 rY rZ aY aV (ab (VP.ve (bx (ab (VP.ve ar) (ab (VP.ve (bo (VP.vr (bo (aa 2) (aa 4))) (VP.vr ag))) (ab (VP.ve (bo (VP.vr (bo (aa 2) (aa 4))) (VP.vr ag))) ah))))) ah)))
     (ae (e8 (i:=5) nd rfl (Or.inl rfl) (VP.vx (cK ah)) np)
     (ae (aS (i:=6) nd rfl (Or.inl rfl) (VP.vx (bc (VP.vr (e7 (aa 4) (VP.vr (ax az aB (by rfl) M.len h_ (aj (aa 0) ao))))) (VP.vr (ax az aB (by rfl) M.len h_ (aj (aa 2) ao))))) np)
     (ae (aS (i:=7) nd rfl (Or.inl rfl) (VP.vx (bc (VP.vr (e7 (VP.vr (bN (aa 4) (VP.vr ag))) (VP.vr (ax az aB (by rfl) M.len h_ (aj (aa 0) ao))))) (VP.vr (ax az aB (by rfl) M.len h_ (aj (aa 2) ao))))) np)
     (ae (aS (i:=8) nd rfl (Or.inl rfl) (VP.vx (c_ (aa 0) (dJ (aa 6)) (dJ (aa 7)))) np)
     (ae (cU uO rfl (da (ai 8)) (aI (i:=9) nd rfl (Or.inl rfl) np)
       (af (aQ (ir (VP.vr (bN (VP.vr (ax az aB (by rfl) M.len h_ (aj (aa 3) ao))) (VP.vr (ax az aB (by rfl) M.len h_ (aj (aa 5) ao))))) (VP.vr (mf (VP.vr ag) (VP.vr (e7 (VP.vr ag) (VP.vr (mf (VP.vr (mf (VP.vr (ax az aB (by rfl) M.len h_ (aj (aa 2) ao))) (VP.vr ag))) (aa 4))))))))
         (af (aW (sO NK (hr.mono (by decide)) (by rfl) NH NI NJ (qx 3 (qx 5 (i_ (ai 9) (i_ (ai 1) (i_ (VP.ve (c_ (aa 2) (dJ (VP.vr (bN (aa 4) (VP.vr ag)))) eZ)) xu))))))))
         ay)))
     (xl [5] (ae (cU uO rfl (da (ai 5)) (aI (i:=10) nd rfl (Or.inl rfl) np)
       (af (aW (du 3 rY rZ aY aV (ab (VP.ve (bx (ab (VP.ve ar) ah))) ah)))))
     (ae (aW (du 3 rY rZ aY aV (ab (VP.ve (bx (ab (VP.ve ar) (ab (VP.ve (aD bL (hr.mono (by decide)) (by rfl) bI bJ bK (ab (VP.ve (aZ (VP.vr (ax (ou rfl) yt (by rfl) M.sum MH (aj (aa 8) ao))) (VP.vr (j5 (VP.vr ag) (VP.vr ag))))) (ab (ai 1) ah)))) ah)))) ah)))
     (af (aQ (VW.vc (dY (bQ hu (VP.vr (aZ (aa 4) (VP.vr ag))) (VP.vr ag)) (c9 (bQ hu (VP.vr (aZ (VP.vr (ax az aB (by rfl) M.len h_ (aj (aa 8) ao))) (VP.vr ag))) (VP.vr ag)))))
       (af (aW (du 3 rY rZ aY aV (ab (VP.ve (bx (ab (VP.ve ar) ah))) ah))))
       ay)))) Tq))))))))
   (af (aw (i7 3 np))))),fun _=>?_⟩
 have Xp:=G.p3
 have eT:((pl.map bb).length)=pl.length:=bU _
 have eN:((ns.map T.int).length)=ns.length:=bU _
 refine ⟨ia _,by omega,by omega,?_⟩
 refine eI (fun k ρ=>∃ kv a5 a6 a7 a8 a9 Tz rt rs,ρ=[some (.lst (ns.map .int),false),some (.lst (ys.map .str),false),some (.lst (pl.map bb),false),some (.lst rt,true),kv,a5,a6,a7,a8,a9,Tz]∧rt=rs.map aN∧Pre ys pl k rs∧rs.length+3 * (pl.length - k)≤60)
  ⟨none,none,none,none,none,none,none,_,[],rfl,rfl,.zero,by simp; omega⟩ ?_ ?_
 · rintro k ρ hk ⟨kv,a5,a6,a7,a8,a9,Tz,_,rs,rfl,rfl,ic,hlen⟩
   rw [eT,Fy] at hk
   obtain ⟨p,hp⟩:∃ p:Str×List Str,p=pl[k]:=⟨_,rfl⟩
   obtain ⟨fn,qm⟩:=p
   have VU:pl[k]?=some (fn,qm):=by rw [n9 hk,hp]
   have et:jW (pl.map bb) (0+(k:Int))=some (bb (fn,qm)):=by
    rw [Int.zero_add]
    refine aG ?_
    rw [oa,VU]
    rfl
   have Xu:k < 3:=by omega
   have TB:(rs.map aN).length < sizeLine:=by rw [bU]; exact fits (by omega)
   refine ⟨_,et,_,aG (j:=0) rfl,_,et,_,aG (j:=1) rfl,cZ (by simp),TB,ia _,.inl ⟨by show -(2 ^ 64:Int) < 0+(k:Int); omega,by show 0+(k:Int) < (2 ^ 64:Int); omega⟩,⟨by show (0:Int) < ((pl.map bb).length:Int); omega,by show ((pl.map bb).length:Int) < 1073741824; omega⟩,
    .inl ⟨by show -(2 ^ 64:Int) < 0+(k:Int)+1; omega,by show 0+(k:Int)+1 < (2 ^ 64:Int); omega⟩,⟨by show (0:Int) < ((pl.map bb).length:Int); omega,by show ((pl.map bb).length:Int) < 1073741824; omega⟩,?_⟩
   obtain ⟨ms,TC,S6⟩:=xZ T.int ns (some ((0+(k:Int)) * ((ns.map T.int).length:Int) / ((pl.map bb).length:Int))) (some ((0+(k:Int)+1) * ((ns.map T.int).length:Int) / ((pl.map bb).length:Int)))
   show i8 (gc (ns.map T.int) (some ((0+(k:Int)) * ((ns.map T.int).length:Int) / ((pl.map bb).length:Int))) (some ((0+(k:Int)+1) * ((ns.map T.int).length:Int) / ((pl.map bb).length:Int)))) _ _ _ _
   rw [TC]
   refine gO (fun i ρ=>∃ b6 b7 b9 GG rt st body bB,ρ=[some (.lst (ns.map .int),false),some (.lst (ys.map .str),false),some (.lst (pl.map bb),false),some (.lst rt,true),some (.int (0+(k:Int)),false),some (.lst st,true),b6,b7,some (.lst (ms.map .int),false),b9,GG]∧rt=(rs ++ [Rw.df fn qm] ++ body).map aN∧st=bB.map .str∧Body ys (pl.drop (k+1)) bB body∧rs.length+1+body.length+bB.length+3 * (pl.length - 1 - k)≤58)
    ⟨_,_,_,_,_,_,[],[],rfl,by simp; rfl,rfl,.nil,by simp; omega⟩ ?_ ?_
   · rintro i z ρ hi ⟨b6,b7,b9,GG,_,_,body,bB,rfl,rfl,rfl,hB,hb⟩
     refine ⟨.inl ⟨by decide,by decide⟩,cg (fun h=>?_) (fun _=>⟨b6,b7,_,GG,_,_,body,bB,rfl,rfl,rfl,hB,hb⟩)⟩
     have hg:(((rs ++ [Rw.df fn qm] ++ body).map aN).length:Int)+((bB.map T.str).length:Int) < 56 - 3 * (((pl.map bb).length:Int) - 1 - (0+(k:Int))):=h
     have TF:gc (pl.map bb) (some (0+(k:Int)+1)) none=(pl.drop (k+1)).map bb:=by
      have:(0+(k:Int)+1)=((k+1:Nat):Int):=by omega
      rw [this]
      exact Ck bb pl (k+1) hk
     have Cm:(rs ++ [Rw.df fn qm] ++ body).length=rs.length+1+body.length:=by simp only [kS,PU]
     rw [bU,bU,eT,Cm] at hg
     refine ⟨rs ++ [Rw.df fn qm] ++ body,bB,z,ys,pl.drop (k+1),?_,⟨G.y6,G.sm,by rw [Kv]; omega,fun p hp=>G.p4 p (List.mem_of_mem_drop hp)⟩,by rw [Cm]; omega,by omega,fun nw cV NL=>?_⟩
     · rw [← TF]; rfl
     · have YK:=Eu NL
       refine ⟨b6,b7,_,GG,_,_,body ++ nw,cV,rfl,?_,rfl,.step hB NL,by rw [kS]; omega⟩
       rw [GN]
   · rintro ρ ⟨b6,b7,b9,GG,_,_,body,bB,rfl,rfl,rfl,hB,hb⟩
     have Cm:(rs ++ [Rw.df fn qm] ++ body).length=rs.length+1+body.length:=by simp only [kS,PU]
     refine gO (f:=T.str) (xs:=bB) (fun i ρ=>∃ GG rt,ρ=[some (.lst (ns.map .int),false),some (.lst (ys.map .str),false),some (.lst (pl.map bb),false),some (.lst rt,true),some (.int (0+(k:Int)),false),some (.lst (bB.map .str),false),b6,b7,some (.lst (ms.map .int),false),b9,GG]∧rt=(rs ++ [Rw.df fn qm] ++ body ++ List.replicate i Rw.fin).map aN)
      ⟨GG,_,rfl,by simp⟩ ?_ ?_
     · rintro i x ρ hi ⟨Xw,_,rfl,rfl⟩
       have DC:i < bB.length:=(h9.mp hi).1
       refine ⟨cZ (by simp),by rw [bU,kS,Cm,CW]; exact fits (by omega),_,_,rfl,?_⟩
       rw [List.replicate_succ',← GN,qd (l₂:=[Rw.fin])]
       rfl
     · rintro ρ ⟨Xw,_,rfl,rfl⟩
       have NM:(rs ++ [Rw.df fn qm] ++ body ++ List.replicate bB.length Rw.fin).length=rs.length+1+body.length+bB.length:=by rw [kS,Cm,CW]
       have v0:0≤ms.sum % 10 ^ (6:Int).toNat:=by rw [M9]; exact lT _ (by decide)
       have v1:ms.sum % 10 ^ (6:Int).toNat < 2147483648:=by rw [M9]; have:=pd ms.sum (show (0:Int) < 1000000 by decide); omega
       refine ⟨ms,ints_map ms,⟨by decide,by decide,by decide⟩,(by show (0:Int) < 10 ^ (6:Int).toNat; decide),rfl,_,ys,rfl,G.y6,v0,v1,fun o ho=>⟨cZ (by simp),by rw [bU,NM]; exact fits (by omega),(by show (0:Int) < 2; decide),?_⟩⟩
       have fin:∀ sk:List Rw,(sk=[]∨sk=[Rw.skip])→Pre ys pl (k+1) (rs ++ (Rw.df fn qm :: (body ++ (List.replicate bB.length Rw.fin ++ (Rw.give o :: sk)))))∧(rs ++ (Rw.df fn qm :: (body ++ (List.replicate bB.length Rw.fin ++ (Rw.give o :: sk))))).length+3 * (pl.length - (k+1))≤60:=fun sk QC=>by
        refine ⟨.succ ic VU hB ho QC,?_⟩
        have:sk.length≤1:=by rcases QC with rfl | rfl <;> simp
        simp only [kS,wO,CW]
        omega
       have e0:(rs ++ [Rw.df fn qm] ++ body ++ List.replicate bB.length Rw.fin).map aN ++ [aN (Rw.give o)]=(rs ++ (Rw.df fn qm :: (body ++ (List.replicate bB.length Rw.fin ++ (Rw.give o :: []))))).map aN:=by
        simp [GN]
       have e1:(rs ++ [Rw.df fn qm] ++ body ++ List.replicate bB.length Rw.fin).map aN ++ [aN (Rw.give o)] ++ [aN Rw.skip]=(rs ++ (Rw.df fn qm :: (body ++ (List.replicate bB.length Rw.fin ++ (Rw.give o :: [Rw.skip]))))).map aN:=by
        simp [GN]
       refine cg (fun _=>?_) (fun _=>d5 rfl ⟨_,_,_,_,_,_,_,_,_,rfl,e0,fin [] (.inl rfl)⟩)
       refine ⟨(by show (0:Int) < 2; decide),cg (fun _=>?_) (fun _=>⟨_,_,_,_,_,_,_,_,_,rfl,e0,fin [] (.inl rfl)⟩)⟩
       refine ⟨cZ (by simp),?_,⟨_,_,_,_,_,_,_,_,_,rfl,e1,fin [.skip] (.inr rfl)⟩⟩
       rw [kS,bU,NM]
       exact fits (by simp; omega)
 · rintro ρ ⟨kv,a5,a6,a7,a8,a9,Tz,_,rs,rfl,rfl,ic,hlen⟩
   rw [eT,Fy] at ic
   exact hq rs ic (by omega)
end
end cJ
namespace ll
open PySem L2 VT Gen xi K9 n8
open cD (Acc ju kP gW fK)
structure VY (mg:Str→Option Value):Prop where
 list:mg "list" = none
 len:mg "len" = none
 isinstance:mg "isinstance" = none
 str:mg "str" = none
def Fg (ts:List T) (q:Rt→Prop):Prop:=∃ ns:List Int,ts=[.lst (ns.map .int)]∧ns.length≤63∧q (.vw (.bl true))
theorem GH {n:Nat} (p:Pt):Lv (n+1) p.t:=by
 cases p with
 | nm x=>exact .inr (.inl ⟨_,rfl⟩)
 | nu i=>exact .inl ⟨_,rfl⟩
 | fd x=>exact .inr (.inl ⟨_,rfl⟩)
theorem lM (a b:Str):(a ++ b).length=a.length+b.length:=by
 show (a.cps ++ b.cps).size=_
 rw [Array.size_append]; rfl
theorem Fh {r:Rw} (h:pY r):(g6 r).length≤6:=by
 have:=h.len
 cases r <;> first
  | (simp only [g6,bU]; exact this)
  | (simp [g6])
theorem JK {r:Rw} (h:pY r):Lv 3 (aN r):=by
 rw [rF r]
 have hl:=Fh h
 refine .inr (.inr ⟨_,rfl,by rw [bU]; omega,fun u hu=>?_⟩)
 obtain ⟨g,hg,rfl⟩:=iV.mp hu
 cases g with
 | inl p=>exact GH p
 | inr ps =>
   have hp:ps.length≤6:=by
    have e:=xT r
    have:ps.length≤((g6 r).flatMap gP).length:=by
     obtain ⟨a,b,e⟩:=List.append_of_mem hg
     rw [e,Kt,List.flatMap_cons,kS,kS]
     show ps.length≤_+(ps.length+_)
     omega
    rw [e] at this
    have:=h.len
    omega
   refine .inr (.inr ⟨_,rfl,by rw [bU]; omega,fun v hv=>?_⟩)
   obtain ⟨p,_,rfl⟩:=iV.mp hv
   exact GH p
theorem zip_rows (rs:List Rw):gB (rs.map aN) (rs.map aN)=rs.map fun r=>T.tup [aN r,aN r]:=by
 rw [ur,x6]; rfl
def ux (r:Rw) (l:List Pt):Str:=Txt.join " " (wd r :: l.map Pt.s)
theorem uy (r:Rw) (l:List Pt) (p:Pt):ux r (l ++ [p])=ux r l ++ " " ++ p.s:=by
 unfold ux
 rw [qd]
 exact za _ _ _
theorem x3 {r:Rw} {l:List Pt} (h:∀ p∈l,p.ok) (hl:l.length≤6):(ux r l).length≤300:=by
 unfold ux
 rw [blank_eq]
 have:=nL 32 (wd r :: l.map Pt.s) (n:=32) fun x hx=>by
  rcases cn.mp hx with rfl | hx
  · have:=ko (xP r); omega
  · obtain ⟨p,hp,rfl⟩:=iV.mp hx
    exact Pt.len (h p hp)
 rw [wO,bU] at this
 omega
def kR:Rw→List (Pt ⊕ List Pt)
 | .df f ps=>[.inl (.nm f),.inr (ps.map .nm)]
 | .call x f as=>[.inl (.nm x),.inl (.nm f),.inr (as.map v8)]
 | r=>(bO r).map .inl
theorem JL (r:Rw):aN r = .tup (.str (wd r) :: (kR r).map gT):=by
 rw [rF r]
 cases r <;> rfl
theorem JM (r:Rw):(kR r).flatMap gP=bO r:=by
 cases r with
 | df f ps=>simp [kR,gP,bO]
 | call x f as=>simp [kR,gP,bO]
 | _=>exact Gv _
theorem wC (rs:List Rw):plainT (.lst (rs.map aN))=true:=by simp only [plainT]; exact cW vH rs
theorem Cn (rs:List Rw):dep (.lst (rs.map aN))≤100:=by have:=eK (f:=aN) (n:=2) Bm rs; simp only [dep]; omega
def TH (q:Rt→Prop):FS:=fun d ρ=>∃ (ns:List Int) (ys:List Str) (b3:Option (T×Bool)) (rs:List Rw),ρ=[some (.lst (ns.map .int),false),some (.lst (ys.map .str),false),some (.lst (rs.map aN),false),b3,none,none,none,none]∧Acc rs∧(∀ r∈rs,pY r)∧q (.vw (.bl true))∧∀ ρ r,q r→d.rt ρ r
section
variable {P:Program} {w:World} {K:PySem.W.Frag} {mg:Str→Option Value} {base:Heap}
abbrev Co:List Str:=["_law_made","_law_rows"]
theorem x4:aE Co ["_law_made","_law_rows"] (ak s_same):=⟨rfl,rfl,rfl,by decide +kernel,rfl,by decide +kernel,by decide +kernel⟩
theorem nX:(Co ++ (["_law_one","_law_other"]:List Str)).Nodup:=by decide +kernel
theorem Fi {f:Addr} {fd:FuncData} (D:Df K mg "_law_same" s_same ["_law_made","_law_rows"] f fd) (M:Nx mg) (JN:bX P w K mg base "_law_part" ["_law_one","_law_other"] 4 (bR K 2 (gR 3))):bX P w K mg base "_law_same" ["_law_made","_law_rows"] 5 (bR K 2 Gw):=by
 obtain ⟨JB,Fb,wt,wu,wx,wy⟩:=JN
 refine D.gA (gN D.F x4 rfl fun bZ A outer s H E Ox hr ts q hG=>?_)
 have nd:=x4.nd
 have hu:=bP.gg hr
 have np:∀ {i:Nat},aT ⟨H,[],Ox⟩ i:=kK
 refine ⟨_,(ae (aQ (VW.vc (fE (cu (bV (bF yr (by rfl) M.isinstance (by rfl) M.list vm (aa 0)))) (eD (gK hu (VP.vr (ax az aB (by rfl) M.len h_ (aj (aa 0) ao))) (VP.vr (ax az aB (by rfl) M.len h_ (aj (aa 1) ao)))))))
   (af (aw (VP.vx fD)))
   ay)
  (af (aw (VP.vx (ax (bM rfl) dB (by rfl) M.all mB (aj (VP.vr (dM (ts:=["_law_one","_law_other"]) rfl (by rfl) (vA (by rfl) M.zip (ai 0) (ai 1)) (fun _ _ _ _ _ _=>(gd (n:=2) rfl (br (aI (i:=2) nX rfl (Or.inl rfl) np) (br (aI (i:=3) nX rfl (Or.inl rfl) np) d4)))) (fun _ _ _ _ _ _=>cC) (fun _ _ _ _ _ _=>(VP.ve (aD wy (hr.mono (by decide)) (by rfl) wt wu wx (ab (ai 2) (ab (ai 3) ah))))))) ao)))))),fun _=>?_⟩
 obtain ⟨rs,rfl,bA,hl,hq⟩:=hG
 refine ⟨rfl,?_⟩
 refine d5 (c:=!decide (((rs.map aN).length:Int)=((rs.map aN).length:Int))) (by simp) ?_
 refine ⟨rfl,?_⟩
 show (gB (rs.map aN) (rs.map aN)).length≤sizeLine∧cP _ _ _ _ (gB (rs.map aN) (rs.map aN)) _
 rw [zip_rows]
 refine ⟨by rw [bU]; exact cZ (by omega),?_⟩
 refine cy (f:=fun r=>T.tup [aN r,aN r]) (u:=fun _=>T.bl true) (fun r fY k hk=>⟨rfl,rfl,rfl,_,rfl,JK (bA r fY),hk⟩) ?_
 rw [List.map_const']
 refine ⟨_,all_true rs.length,?_⟩
 have:(List.replicate rs.length true).all id=true:=by simp
 rw [this]
 exact hq
abbrev JO:List Str:=["_law_row","_law_line_here","_law_part_here","_law_one"]
theorem x5:aE JO ["_law_row"] (ak rN):=⟨rfl,rfl,rfl,by decide +kernel,rfl,by decide +kernel,by decide +kernel⟩
theorem Fj {f:Addr} {fd:FuncData} (D:Df K mg "_law_line" rN ["_law_row"] f fd) (M:Nx mg):bX P w K mg base "_law_line" ["_law_row"] 1 (bR K 1 Gx):=by
 refine D.gA (gN D.F x5 rfl fun bZ A outer s H E Ox hr ts q hG=>?_)
 have nd:=x5.nd
 have np:∀ {i:Nat},aT ⟨H,[],Ox⟩ i:=kK
 refine ⟨_,(ae (aS (i:=1) nd rfl (Or.inl rfl) (VP.vx (bo (aa 0) (VP.vr ag))) np)
   (ae (cU uO rfl (da (VP.ve (c_ (aa 0) (dJ (VP.vr ag)) eZ))) (aI (i:=2) nd rfl (Or.inl rfl) np)
     (af (aQ (bV (bF dA (by rfl) M.isinstance (by rfl) M.tuple dc (aa 2)))
       (af (cU uO rfl (da (ai 2)) (aI (i:=3) nd rfl (Or.inl rfl) np)
         (af (aS (i:=1) nd rfl (Or.inl rfl) (VP.vx (bN (VP.vr (bN (aa 1) (VP.vr ar))) (VP.vr (b_ kr iP (by rfl) M.str we (aj (aa 3) ao))))) np))))
       (af (aS (i:=1) nd rfl (Or.inl rfl) (VP.vx (bN (VP.vr (bN (aa 1) (VP.vr ar))) (VP.vr (b_ kr iP (by rfl) M.str we (aj (aa 2) ao))))) np)))))
   (af (aw (VP.vx (VE.vp (ai 1))))))),fun _=>?_⟩
 obtain ⟨r,rfl,fY,hq⟩:=hG
 have et:=JL r
 have ep:=JM r
 have bA:∀ p∈bO r,p.ok:=fun p hp=>fY.ok p (g9 _ hp)
 have hlen:(bO r).length≤5:=by have:=fY.len; unfold c6 at this; rw [wO] at this; omega
 have b1:(((" " : String):Str)).length=1:=by decide +kernel
 rw [et]
 refine ⟨_,aG (j:=0) rfl,fun z=>?_,?_⟩
 · have z1:=z.1
   rw [show (1:Int)=((1:Nat):Int) from rfl,HT.g_,wO] at z1
   omega
 show i8 (gc (.str (wd r) :: (kR r).map gT) (some ((1:Nat):Int)) none) _ _ _ _
 rw [wg (by simp)]
 show i8 ((kR r).map gT) _ _ _ _
 refine gO (fun i ρ=>∃ b2 b3,ρ=[some (.tup (.str (wd r) :: (kR r).map gT),false),some (.str (ux r (((kR r).take i).flatMap gP)),false),b2,b3]) ⟨_,_,rfl⟩ ?_ ?_
 · rintro i g ρ hg ⟨b2,b3,rfl⟩
   have Tr:=jO hg
   have e2:((kR r).take (i+1)).flatMap gP=((kR r).take i).flatMap gP ++ gP g:=by rw [List.take_succ,hg,Kt]; simp
   have sub:∀ j,j≤(gP g).length→(∀ p∈((kR r).take i).flatMap gP ++ (gP g).take j,p.ok)∧(((kR r).take i).flatMap gP ++ (gP g).take j).length≤5:=fun j hj=>by
    have pre:(((kR r).take i).flatMap gP ++ (gP g).take j) <+: bO r:=by
     rw [← ep]
     conv=>rhs; rw [← List.take_append_drop (i+1) (kR r)]
     rw [Kt,e2,GN]
     refine List.prefix_append_right_inj _ |>.mpr ?_
     exact (List.take_prefix _ _).trans (List.prefix_append _ _)
    exact ⟨fun p hp=>bA p (pre.subset hp),kF pre.length_le hlen⟩
   cases g with
   | inl p =>
     have s0:=sub 0 (ia _)
     have CU:p.ok:=(sub 1 (dH _)).1 p (iR _ (by show p∈[p].take 1; simp))
     rw [List.take_zero,CY] at s0
     have l0:=x3 (r:=r) s0.1 (by omega)
     have lp:=Pt.len CU
     have en:ux r (((kR r).take (i+1)).flatMap gP)=ux r (((kR r).take i).flatMap gP) ++ " " ++ p.s:=by rw [e2]; exact uy _ _ _
     have z1:(ux r (((kR r).take i).flatMap gP)).length+(((" " : String):Str)).length≤sizeLine:=by rw [b1]; exact cZ (by omega)
     have z2:(ux r (((kR r).take i).flatMap gP) ++ " ").length+p.s.length≤sizeLine:=by rw [lM,b1]; exact cZ (by omega)
     cases p with
     | nm x=>exact ⟨rfl,z1,z2,_,_,by rw [en]; rfl⟩
     | fd x=>exact ⟨rfl,z1,z2,_,_,by rw [en]; rfl⟩
     | nu n=>exact ⟨rfl,z1,nJ CU.1 CU.2,z2,_,_,by rw [en]; rfl⟩
   | inr ps =>
     refine ⟨rfl,?_⟩
     show i8 (ps.map Pt.t) _ _ _ _
     refine gO (fun j ρ=>∃ b3,ρ=[some (.tup (.str (wd r) :: (kR r).map gT),false),some (.str (ux r (((kR r).take i).flatMap gP ++ ps.take j)),false),some (.tup (ps.map Pt.t),false),b3]) ⟨_,by rw [List.take_zero,CY]; rfl⟩ ?_ ?_
     · rintro j p ρ hp ⟨b3,rfl⟩
       have hj:=(h9.mp hp).1
       have s0:=sub j (by show j≤ps.length; omega)
       have s1:=sub (j+1) (by show j+1≤ps.length; omega)
       have e3:ps.take (j+1)=ps.take j ++ [p]:=by rw [List.take_succ,hp]; rfl
       have CU:p.ok:=s1.1 p (iR _ (by show p∈ps.take (j+1); rw [e3]; simp))
       have l0:=x3 (r:=r) s0.1 (by omega)
       have lp:=Pt.len CU
       have en:ux r (((kR r).take i).flatMap gP ++ ps.take (j+1))=ux r (((kR r).take i).flatMap gP ++ ps.take j) ++ " " ++ p.s:=by rw [e3,← GN]; exact uy _ _ _
       have z1:(ux r (((kR r).take i).flatMap gP ++ ps.take j)).length+(((" " : String):Str)).length≤sizeLine:=by rw [b1]; exact cZ (by have:(ux r (((kR r).take i).flatMap gP ++ ps.take j)).length≤300:=l0; omega)
       have z2:(ux r (((kR r).take i).flatMap gP ++ ps.take j) ++ " ").length+p.s.length≤sizeLine:=by rw [lM,b1]; exact cZ (by have:(ux r (((kR r).take i).flatMap gP ++ ps.take j)).length≤300:=l0; omega)
       cases p with
       | nm x=>exact ⟨z1,z2,_,by rw [en]; rfl⟩
       | fd x=>exact ⟨z1,z2,_,by rw [en]; rfl⟩
       | nu n=>exact ⟨z1,nJ CU.1 CU.2,z2,_,by rw [en]; rfl⟩
     · rintro ρ ⟨b3,rfl⟩
       exact ⟨some (.tup (ps.map Pt.t),false),b3,by rw [Kw,e2]; rfl⟩
 · rintro ρ ⟨b2,b3,rfl⟩
   rw [Kw,ep]
   exact hq
abbrev GI:List Str:=["_law_script","_law_words_here","_law_rows","_law_bend","_law_held","_law_text","_law_told","_law_made"]
theorem Cp:aE GI ["_law_script"] (ak jI):=⟨rfl,rfl,rfl,by decide +kernel,rfl,by decide +kernel,by decide +kernel⟩
theorem zy:(GI ++ (["_law_row"]:List Str)).Nodup:=by decide +kernel
theorem JP {f:Addr} {fd:FuncData} (D:Df K mg "law" jI ["_law_script"] f fd) (M:VY mg) (zz:bX P w K mg base "_law_cell_at" ["_law_script","_law_k"] 1 (bR K 2 cJ.Gy)) (Fl:bX P w K mg base "_law_words" ["_law_cell","_law_many"] 1 (bR K 2 cJ.B_)) (JQ:bX P w K mg base "_law_plan" ["_law_cell","_law_words_here"] 1 (bR K 2 cJ.GF)) (zA:bX P w K mg base "_law_program" ["_law_cells","_law_words_here","_law_plan_here"] 5 (bR K 3 cJ.uw)) (JR:bX P w K mg base "_law_line" ["_law_row"] 1 (bR K 1 Gx)) (JS:bX P w K mg base "_law_same" ["_law_made","_law_rows"] 5 (bR K 2 Gw)) (zB:bX P w K mg base "written" ["program"] 2 (bR K 1 uj)) (JT:bX P w K mg base "read" ["text"] 8 (bR K 1 Gu)):dX P w K mg base jN 9 f fd ["_law_script"] (bR K 1 Fg):=by
 obtain ⟨K5,JU,kA,kB,kC,kD⟩:=zz
 obtain ⟨QD,NN,m_words,Fm,Fo,Fp⟩:=Fl
 obtain ⟨TJ,QE,JV,JW,JX,JY⟩:=JQ
 obtain ⟨K6,JZ,zC,zD,zE,zF⟩:=zA
 obtain ⟨TK,QF,J1,J_,Ka,Kb⟩:=JR
 obtain ⟨TL,QG,Cq,k_same,Cr,Cs⟩:=JS
 obtain ⟨K7,Kc,p9,p_,qa,qb⟩:=zB
 obtain ⟨TM,QH,wD,wF,wG,wH⟩:=JT
 refine gN D.F Cp rfl fun bZ A outer s H E Ox hr ts q hG=>?_
 have nd:=Cp.nd
 have hu:=bP.gg hr
 have np:∀ {i:Nat},aT ⟨H,[],Ox⟩ i:=kK
 refine ⟨_,(ae (aS (i:=1) nd rfl (Or.inl rfl) (VP.vx (aD Fp (hr.mono (by decide)) (by rfl) m_words Fm Fo (ab (VP.ve (aD kD (hr.mono (by decide)) (by rfl) kA kB kC (ab (ai 0) (ab (VP.ve ag) ah)))) (ab (VP.ve ag) ah)))) np)
   (ae (aS (i:=2) nd rfl (Or.inl rfl) (VP.vx (aD zF (hr.mono (by decide)) (by rfl) zC zD zE (ab (VP.ve (c_ (aa 0) (dJ (VP.vr ag)) eZ)) (ab (ai 1) (ab (VP.ve (aD JY (hr.mono (by decide)) (by rfl) JV JW JX (ab (VP.ve (aD kD (hr.mono (by decide)) (by rfl) kA kB kC (ab (ai 0) (ab (VP.ve ag) ah)))) (ab (ai 1) ah)))) ah))))) np)
   (ae (aS (i:=3) nd rfl (Or.inl rfl) (VP.vx (aZ (VP.vr (bc (VP.vr (aD kD (hr.mono (by decide)) (by rfl) kA kB kC (ab (ai 0) (ab (VP.ve ag) ah)))) (VP.vr ag))) (VP.vr ag))) np)
   (ae (aQ (bQ hu (aa 3) (VP.vr ag))
     (af (aS (i:=2) nd rfl (Or.inl rfl) (VP.vx (cK ah)) np))
     ay)
   (ae (aQ (VW.vc (dY (bQ hu (aa 3) (VP.vr ag)) (c9 (ir (VP.vr (ax az aB (by rfl) M.len h_ (aj (aa 2) ao))) (VP.vr ag)))))
     (af (aS (i:=2) nd rfl (Or.inl rfl) (VP.vx (bN (VP.vr (cK (ab (VP.ve (bx (ab (VP.ve ar) ah))) (ab (VP.ve (bx (ab (VP.ve ar) ah))) ah)))) (aa 2))) np))
     ay)
   (lF.weak (u:=(TH q)) (ae (aS (i:=4) nd rfl (Or.inl rfl) (VP.vx (b_ iZ mh (by rfl) M.list vm (aj (aa 2) ao))) np)
   (ae (aS (i:=5) nd rfl (Or.inl rfl) (VP.vx (kq (VP.vr ar) (aj (VP.vr (dM (ts:=["_law_row"]) rfl (by rfl) (da (ai 4)) (fun _ _ _ _ _ _=>(aI (i:=8) zy rfl (Or.inl rfl) np)) (fun _ _ _ _ _ _=>cC) (fun _ _ _ _ _ _=>(VP.ve (aD Kb (hr.mono (by decide)) (by rfl) J1 J_ Ka (ab (ai 8) ah)))))) ao))) np)
   (ae (aS (i:=6) nd rfl (Or.inl rfl) (VP.vx (aD qb (hr.mono (by decide)) (by rfl) p9 p_ qa (ab (ai 2) ah))) np)
   (ae (aQ (VW.vc (fE (cu (bV (bF eG (by rfl) M.isinstance (by rfl) M.str mD (aa 6)))) (fE (gK hu (aa 6) (aa 5)) (eD (gK hu (aa 2) (aa 4))))))
     (af (aw (VP.vx fD)))
     ay)
   (ae (e8 (i:=7) nd rfl (Or.inl rfl) (VP.vx (aD wH (hr.mono (by decide)) (by rfl) wD wF wG (ab (ai 5) ah))) np)
   (ae (aQ (cu (bV (gL Cs (hr.mono (by decide)) (by rfl) Cq k_same Cr (aj (aa 7) (aj (aa 4) ao)))))
     (af (aw (VP.vx fD)))
     ay)
   (ae (aW (du 7 rY rZ aY aV (ab (VP.ve (bx (ab (VP.ve ar) ah))) ah)))
   (ae (aW (vf 7 PySem.F.slot_list_reverse PySem.F.type_list_reverse u_ sJ))
   (af (aw (VP.vx (iH (aD Cs (hr.mono (by decide)) (by rfl) Cq k_same Cr (ab (VP.ve (aD wH (hr.mono (by decide)) (by rfl) wD wF wG (ab (ai 6) ah))) (ab (ai 4) ah))) (iH (i5 hu (VP.vr (aD wH (hr.mono (by decide)) (by rfl) wD wF wG (ab (VP.ve ar) ah))) (VP.vr (cK ah))) (iG (i5 hu (VP.vr (aD qb (hr.mono (by decide)) (by rfl) p9 p_ qa (ab (VP.ve (cK ah)) ah))) (VP.vr ar)))))))))))))))) ?w1)))))),fun _=>?main⟩
 case w1 =>
  rintro d ρ ⟨ns,ys,b3,rs,rfl,hA,bA,hq,fin⟩
  have hn:=hA.n
  have hp:=wC rs
  have hx:=i4 _ hp
  have b1:((("\n" : String):Str)).length=1:=by decide +kernel
  have YL:oz (rs.map aN)=true:=ji Bn rs
  refine ⟨rfl,by rw [bU]; exact cZ (by omega),?_⟩
  refine cy (f:=aN) (u:=fun r=>T.str (cm r)) (fun r fY k hk=>⟨rfl,r,rfl,bA r fY,hk⟩) ?_
  refine ⟨rs.map cm,by rw [x6]; rfl,?_,?_⟩
  · have s:=nK (f:=fun x:Str=>x.length) (n:=200) (l:=rs.map cm) fun x hx=>by
     obtain ⟨r,fY,rfl⟩:=iV.mp hx
     exact jE (bA r fY)
    rw [bU] at s ⊢
    rw [b1]
    omega
  refine ⟨rfl,rs,rfl,hn,bA,rfl,?_⟩
  refine d5 (c:=!decide (gz rs=gz rs)) (by simp) ?_
  refine ⟨hp,hp,Cn rs,?_⟩
  refine d5 (c:=!eqT (.lst (rs.map aN)) (.lst (rs.map aN))) (by rw [hx]; rfl) ?_
  have Xx:Acc []:=⟨by simp,fun r hr=>(nomatch hr),rfl,⟨fun i i' f ps CP h=>by simp at h,fun i x f as h=>by simp at h⟩⟩
  have e0:gz []="":=by decide +kernel
  refine ⟨rfl,rs,rfl,bA,hA,rfl,rs,rfl,bA,by omega,?_⟩
  refine ⟨rfl,cZ (by simp),by rw [sizeLine_eq,bU]; omega,?_⟩
  refine ⟨rfl,rfl,rs,rfl,bA,hA,rfl,rs,rfl,bA,by omega,?_⟩
  refine ⟨rfl,[],by rw [e0]; rfl,fun r hr=>(nomatch hr),Xx,ia _,?_⟩
  refine ⟨rfl,rfl,by decide,?_⟩
  refine ⟨ia _,rfl,[],rfl,by simp,fun r hr=>(nomatch hr),?_⟩
  rw [e0]
  exact fin _ _ hq
 case main =>
  obtain ⟨ns,rfl,YM,hq⟩:=hG
  have xW:(cL (ns.getD 0 0) 6).length=6:=vE _ _
  have K8:∀ y∈cL (ns.getD 0 0) 6,bq y=true:=vQ
  have Io:(cL (ns.getD 0 0) 6).Nodup:=tS (by decide)
  refine ⟨rfl,ns,0,rfl,rfl,_,6,rfl,by decide,by decide,?_⟩
  generalize cL (ns.getD 0 0) 6=ys at xW K8 Io ⊢
  obtain ⟨ms,TC,S6⟩:=cJ.xZ T.int ns (some 2) none
  refine ⟨rfl,ns,1,rfl,rfl,_,ys,rfl,xW,fun pl jU h1 h3=>?_⟩
  refine ⟨rfl,ms,ys,pl,by rw [← TC]; rfl,by omega,⟨xW,fun y hy=>by have:=cD.jt (K8 y hy); omega,h3,fun p hp=>?_⟩,h1,fun rs ic hlen=>?_⟩
  · have:=(tU xW jU p.1 p.2 hp).2
    omega
  have VZ:∀ r∈rs,tT ys r:=Jk xW Io jU ic
  have oj:∀ r∈rs,kP (aN r):=fun r hr=>gW K8 (VZ r hr)
  have TN:∀ r∈rs,pY r:=fun r hr=>BX K8 (VZ r hr)
  have QC:pY .skip:=BX (ys:=ys) K8 (r:=.skip) trivial
  have hA:Acc rs:=⟨hlen,oj,xH ic,BN Io jU ic⟩
  refine ⟨rfl,ns,1,rfl,⟨by decide,by decide⟩,(by show (0:Int) < 9; decide),?_⟩
  refine cg (fun hb=>?_) (fun hb=>?_)
  · refine ⟨ia _,d5 (c:=decide (ns.getD 1 0 / 7 % 9=2)) (decide_eq_false (by omega)) ⟨ns,ys,_,[],rfl,⟨by simp,fun r hr=>(nomatch hr),rfl,⟨fun i i' f ps CP h=>by simp at h,fun i x f as h=>by simp at h⟩⟩,fun r hr=>(nomatch hr),hq,fun _ _ h=>h⟩⟩
  · refine cg (fun IA=>?_) (fun IA=>⟨ns,ys,_,rs,rfl,hA,TN,hq,fun _ _ h=>h⟩)
    refine cg (fun fz=>?_) (fun _=>⟨ns,ys,_,rs,rfl,hA,TN,hq,fun _ _ h=>h⟩)
    have TQ:(((rs.map aN).length:Nat):Int) < 58:=fz
    rw [bU] at TQ
    have Xy:Acc (List.replicate 2 Rw.skip ++ rs):=⟨by simp; omega,fun r hr=>by
     rcases gD.mp hr with hr | hr
     · rw [(P4.mp hr).2]; exact gW (ys:=ys) K8 (r:=.skip) trivial
     · exact oj r hr,by rw [gk,yU]; exact xH ic,vU _ hA.d⟩
    refine ⟨cZ (by simp),cZ (by simp),cZ (by simp),?_,ns,ys,_,List.replicate 2 Rw.skip ++ rs,rfl,Xy,fun r hr=>?_,hq,fun _ _ h=>h⟩
    · show 2+(rs.map aN).length≤sizeLine
      rw [bU]
      exact cZ (by omega)
    · rcases gD.mp hr with hr | hr
      · rw [(P4.mp hr).2]; exact QC
      · exact TN r hr
end
end ll
namespace bC
open PySem L2 VT
theorem bz {K:PySem.W.Frag} {h:Heap} {mg:Str→Option Value} (X:K.In h) (G:h.Ns mainGlobals mg) {x:Str} {st:Stmt} {ps:List Str} {f:Addr} {oc:Value} {od an:Option Addr} {CH:Array (Option Value)} {kV doc pm bZ ct:Value}
  (a:PySem.W.nsIn K mainGlobals x=some (some (.ref f))) (l:K.lookup f=some ⟨oc,od,.func (PySem.W.fnOf x x (eX st) (c8 st) (ak st) .none kV doc pm an bZ ct),CH⟩)
  (c:PySem.W.codeIn K bZ x=true) (k:PySem.W.keepIn K (.ref f)=true)
  (hb:∀ (kV doc pm:Value) (an:Option Addr) (bZ ct:Value) (us:List Value),us.length=ps.length→bindArgs (PySem.W.fnOf x x (eX st) (c8 st) (ak st) .none kV doc pm an bZ ct) ⟨us,[]⟩=pure (ps.zip us)) :
  ∃ f fd,Df K mg x st ps f fd:=by
 have F:=AA (st:=st) l c k
 exact ⟨f,_,F,pf X G a,F.binds hb⟩
theorem cp {C:List Value→Prop} (h:C []):∀ us:List Value,us.length=0→C us
 | [],_=>h
theorem bj {n:Nat} {C:List Value→Prop} (h:∀ a,∀ us:List Value,us.length=n→C (a :: us)):∀ us:List Value,us.length=n+1→C us
 | a :: us,e=>h a us (Nat.succ.inj e)
theorem TR {C:List Value→Prop} (h:∀ a,C [a]):∀ us:List Value,us.length=1→C us:=bj fun a=>cp (h a)
abbrev pE:Program:=PySem.Challenge.pw_slicewise_k09_programs_written_and_read
noncomputable def qE:Program:=PySem.W.view pE [1,2,3,4,5,6,8,9,10,11,12,13,14,15,16,17,18,19,20,21,22,24,25,26,27,28,29,30,31,32,33,34,36,37,38,39,40,41,42,43,44,46,47,48,49,50,51,52,53,54,55,56,57,58]
def Ct:List Str:=["FORMS","AHEAD_OF_TUPLE"]
def GJ:List Addr:=[0,1,2,3,4,5,6,7,8,9,10,11,12,13,14,15,22,23,24,25,28,35,36,37,40,47,48,49,50,51,52,53,54,55,56,59,66,67,68,69,70,71,72,73,74,75,78,85,86,87,88,89,90,91,92,93,94,97,104,105,106,107,108,109,110,111,112,113,116,117,118,119,120,121,122,123,124,125,126,127,128,129,130,131,132,133,134,135,136,137,138,139,140,141,142,143,144,145,146,147,148,149,150,151,152,153,154,155,156,157,158,159,160,161,162,163,164,165,166,167,168,169,170,171,172,173,174,175,176,177,178,179,180,181,182,183,184,185,186,187,188,189,190,191,192,193,194,195,196,197,198,199,200,201,202,203,204,205,206,207,208,209,210,211,212,213,214,215,216,217,218,219,220,221,222,223,224,225,226,227,228,229,230,231,232,233,234,235,236,237,238,239,240,241,242,243,244,245,246,247,248,249,250,251,252,253,254,255,256,257,258,259,260,261,262,263,264,265,266,267,268,269,270,271,272,273,274,275,276,277,278,279,280,281,282,283,284,285,286,287,288,289,290,291,292,293,294,295,296,297,298,299,300,301,302,303,304,305,306,307,308,309,310,311,312,313,314,315,316,317,318,319,320,321,322,323,324,325,326,327,328,329,330,331,332,333,334,335,336,337,338,339,340,341,342,343,344,345,346,347,348,349,350,351,352,353,354,355,356,357,358,359,360]
abbrev OV:=Option (Option Value)
abbrev OO:=Option Obj
abbrev N (K:PySem.W.Frag) (x:Str):=PySem.W.nsIn K mainGlobals x
abbrev Lk (K:PySem.W.Frag) (a:Addr):=List.lookup a K
abbrev R (a:Addr):OV:=some (some (.ref a))
abbrev fo (x q:Str) (st:Stmt) (pm:Value) (c:Addr):OO:=some ⟨.type "function",none,.func (PySem.W.fnOf x q (eX st) (c8 st) (ak st) .none .none .none pm none (.ref c) .none),#[]⟩
abbrev cI (K:PySem.W.Frag) (c:Value) (q:Str):=PySem.W.codeIn K c q
abbrev kI (K:PySem.W.Frag) (f:Addr):=PySem.W.keepIn K (.ref f)
abbrev XX:Type:=(((((((OV×(OV×OV))×(OV×(OV×OV)))×((OV×(OV×OO))×(OV×(OO×OV))))×(((OO×(OV×OV))×(OV×(OV×OV)))×((OV×(OV×OV))×(OV×(OV×OV)))))×((((OV×(OV×OV))×(OV×(OV×OV)))×((OV×(OV×OV))×(OO×(OO×OO))))×(((OO×(OO×OO))×(OO×(OO×OO)))×((OO×(OO×OO))×(OO×(OO×OO))))))×(((((OV×(OO×OV))×(OO×(Bool×Bool)))×((OV×(OO×Bool))×(Bool×(OV×OO))))×(((Bool×(Bool×OV))×(OO×(Bool×Bool)))×((OV×(OO×Bool))×(Bool×(OV×OO)))))×((((Bool×(Bool×OV))×(OO×(Bool×Bool)))×((OV×(OO×Bool))×(Bool×(OV×OO))))×(((Bool×(Bool×OV))×(OO×(Bool×Bool)))×((OV×(OO×Bool))×((Bool×OV)×(OO×Bool)))))))×((((((Bool×(OV×OO))×(Bool×(Bool×OV)))×((OO×(Bool×Bool))×(OV×(OO×Bool))))×(((Bool×(OV×OO))×(Bool×(Bool×OV)))×((OO×(Bool×Bool))×(OV×(OO×Bool)))))×((((Bool×(OV×OO))×(Bool×(Bool×OV)))×((OO×(Bool×Bool))×(OV×(OO×Bool))))×(((Bool×(OV×OO))×(Bool×(Bool×OV)))×((OO×(Bool×Bool))×(OV×(OO×Bool))))))×(((((Bool×(OV×OO))×(Bool×(Bool×OV)))×((OO×(Bool×Bool))×(OV×(OO×Bool))))×(((Bool×(OV×OO))×(Bool×(Bool×OV)))×((OO×(Bool×Bool))×(OV×(OO×Bool)))))×((((Bool×(OV×OO))×(Bool×(Bool×OV)))×((OO×(Bool×Bool))×(OV×(OO×Bool))))×(((Bool×(OV×OO))×(Bool×(Bool×OV)))×((OO×(Bool×Bool))×((OV×OO)×(Bool×Bool))))))))
noncomputable def FF (K:PySem.W.Frag):XX:=(((((((N K "H",(N K "LETTERS",N K "FIGURES")),(N K "LONGEST_NAME",(N K "MOST_PARTS",N K "MOST_ROWS"))),((N K "LONGEST_NUMBER",(N K "RECKONINGS",Lk K 116)),(N K "OPENERS",(Lk K 187,N K "CLOSERS")))),(((Lk K 188,(N K "isinstance",N K "int")),(N K "bool",(N K "str",N K "len"))),((N K "all",(N K "tuple",N K "set")),(N K "zip",(N K "range",N K "sum"))))),((((N K "list",(N K "enumerate",N K "is_name")),(N K "are_parameters",(N K "is_operand",N K "is_reckoning"))),((N K "is_key",(N K "are_operands",N K "FORMS")),(Lk K 167,(Lk K 181,Lk K 180)))),(((Lk K 179,(Lk K 178,Lk K 177)),(Lk K 176,(Lk K 175,Lk K 174))),((Lk K 173,(Lk K 172,Lk K 171)),(Lk K 170,(Lk K 169,Lk K 168)))))),(((((N K "AHEAD_OF_TUPLE",(Lk K 245,N K "law")),(Lk K 360,(cI K (.ref 359) "law",kI K 360))),((N K "is_number",(Lk K 123,cI K (.ref 122) "is_number")),(kI K 123,(N K "is_name",Lk K 128)))),(((cI K (.ref 127) "is_name",(kI K 128,N K "is_operand")),(Lk K 135,(cI K (.ref 134) "is_operand",kI K 135))),((N K "is_field",(Lk K 142,cI K (.ref 141) "is_field")),(kI K 142,(N K "is_key",Lk K 149))))),((((cI K (.ref 148) "is_key",(kI K 149,N K "is_reckoning")),(Lk K 156,(cI K (.ref 155) "is_reckoning",kI K 156))),((N K "are_operands",(Lk K 161,cI K (.ref 160) "are_operands")),(kI K 161,(N K "are_parameters",Lk K 166)))),(((cI K (.ref 165) "are_parameters",(kI K 166,N K "is_row")),(Lk K 186,(cI K (.ref 185) "is_row",kI K 186))),((N K "may_stand",(Lk K 216,cI K (.ref 215) "may_stand")),((kI K 216,N K "go_past"),(Lk K 223,cI K (.ref 222) "go_past"))))))),((((((kI K 223,(N K "check_rows",Lk K 202)),(cI K (.ref 201) "check_rows",(kI K 202,N K "check_blocks"))),((Lk K 209,(cI K (.ref 208) "check_blocks",kI K 209)),(N K "first_defs",(Lk K 237,cI K (.ref 236) "first_defs")))),(((kI K 237,(N K "may_call",Lk K 244)),(cI K (.ref 243) "may_call",(kI K 244,N K "check_calls"))),((Lk K 230,(cI K (.ref 229) "check_calls",kI K 230)),(N K "program_of",(Lk K 195,cI K (.ref 194) "program_of"))))),((((kI K 195,(N K "writes_number",Lk K 277)),(cI K (.ref 276) "writes_number",(kI K 277,N K "part_of"))),((Lk K 272,(cI K (.ref 271) "part_of",kI K 272)),(N K "row_of",(Lk K 265,cI K (.ref 264) "row_of")))),(((kI K 265,(N K "line_of",Lk K 255)),(cI K (.ref 254) "line_of",(kI K 255,N K "written"))),((Lk K 250,(cI K (.ref 249) "written",kI K 250)),(N K "read",(Lk K 260,cI K (.ref 259) "read")))))),(((((kI K 260,(N K "_law_cell_at",Lk K 284)),(cI K (.ref 283) "_law_cell_at",(kI K 284,N K "_law_words"))),((Lk K 291,(cI K (.ref 290) "_law_words",kI K 291)),(N K "_law_operand",(Lk K 298,cI K (.ref 297) "_law_operand")))),(((kI K 298,(N K "_law_key",Lk K 305)),(cI K (.ref 304) "_law_key",(kI K 305,N K "_law_call"))),((Lk K 312,(cI K (.ref 311) "_law_call",kI K 312)),(N K "_law_simple",(Lk K 319,cI K (.ref 318) "_law_simple"))))),((((kI K 319,(N K "_law_lay",Lk K 326)),(cI K (.ref 325) "_law_lay",(kI K 326,N K "_law_plan"))),((Lk K 331,(cI K (.ref 330) "_law_plan",kI K 331)),(N K "_law_program",(Lk K 338,cI K (.ref 337) "_law_program")))),(((kI K 338,(N K "_law_part",Lk K 350)),(cI K (.ref 349) "_law_part",(kI K 350,N K "_law_same"))),((Lk K 355,(cI K (.ref 354) "_law_same",kI K 355)),((N K "_law_line",Lk K 345),(cI K (.ref 344) "_law_line",kI K 345))))))))
noncomputable def VV (w:World):XX:=(((((((some (some (.int 1000000000000000000000000000000 325)),(some (some (.str xi.ba 327)),some (some (.str K9.o6 516)))),(some (some (.int 8 329)),(some (some (.int 4 331)),some (some (.int 60 431))))),((some (some (.int 32 518)),(R 116,some ⟨.type "tuple",none,.seq #[.str "plus" 333,.str "minus" 334,.str "times" 335,.str "over" 336,.str "rest" 337,.str "less" 338,.str "same" 339] 0,#[]⟩)),(R 187,(some ⟨.type "tuple",none,.seq #[.str "def" 433,.str "if" 434,.str "while" 435] 0,#[]⟩,R 188)))),(((some ⟨.type "tuple",none,.seq #[.str "give" 437,.str "end" 438] 0,#[]⟩,(some none,some none)),(some none,(some none,some none))),((some none,(some none,some none)),(some none,(some none,some none))))),((((some none,(some none,R 128)),(R 166,(R 135,R 156))),((R 149,(R 161,R 167)),(some ⟨.type "dict",none,.dict #[⟨PyData.keyHash w.params "def",.str "def" 394,.ref 168⟩,⟨PyData.keyHash w.params "give",.str "give" 395,.ref 169⟩,⟨PyData.keyHash w.params "put",.str "put" 396,.ref 170⟩,⟨PyData.keyHash w.params "do",.str "do" 397,.ref 171⟩,⟨PyData.keyHash w.params "new",.str "new" 398,.ref 172⟩,⟨PyData.keyHash w.params "get",.str "get" 399,.ref 173⟩,⟨PyData.keyHash w.params "set",.str "set" 400,.ref 174⟩,⟨PyData.keyHash w.params "call",.str "call" 401,.ref 175⟩,⟨PyData.keyHash w.params "fail",.str "fail" 402,.ref 176⟩,⟨PyData.keyHash w.params "if",.str "if" 403,.ref 177⟩,⟨PyData.keyHash w.params "else",.str "else" 404,.ref 178⟩,⟨PyData.keyHash w.params "while",.str "while" 405,.ref 179⟩,⟨PyData.keyHash w.params "end",.str "end" 406,.ref 180⟩,⟨PyData.keyHash w.params "skip",.str "skip" 407,.ref 181⟩] 14,#[]⟩,(some ⟨.type "tuple",none,.seq #[] 0,#[]⟩,some ⟨.type "tuple",none,.seq #[] 0,#[]⟩)))),(((some ⟨.type "tuple",none,.seq #[.ref 135] 0,#[]⟩,(some ⟨.type "tuple",none,.seq #[] 0,#[]⟩,some ⟨.type "tuple",none,.seq #[.ref 135] 0,#[]⟩)),(some ⟨.type "tuple",none,.seq #[.ref 128] 0,#[]⟩,(some ⟨.type "tuple",none,.seq #[.ref 128,.ref 128,.ref 161] 0,#[]⟩,some ⟨.type "tuple",none,.seq #[.ref 128,.ref 149,.ref 135] 0,#[]⟩))),((some ⟨.type "tuple",none,.seq #[.ref 128,.ref 128,.ref 149] 0,#[]⟩,(some ⟨.type "tuple",none,.seq #[.ref 128] 0,#[]⟩,some ⟨.type "tuple",none,.seq #[.ref 128,.ref 135,.ref 156,.ref 135] 0,#[]⟩)),(some ⟨.type "tuple",none,.seq #[.ref 128,.ref 135] 0,#[]⟩,(some ⟨.type "tuple",none,.seq #[.ref 135] 0,#[]⟩,some ⟨.type "tuple",none,.seq #[.ref 128,.ref 166] 0,#[]⟩)))))),(((((R 245,(some ⟨.type "dict",none,.dict #[⟨PyData.keyHash w.params "def",.str "def" 520,.int (2) 521⟩,⟨PyData.keyHash w.params "call",.str "call" 522,.int (3) 523⟩] 2,#[]⟩,R 360)),(fo "law" "law" ll.jI (.str "law_slicewise_k09_programs_written_and_read" 564) 359,(true,true))),((R 123,(fo "is_number" "is_number" cD.dR (.str "slicewise.rows" 323) 122,true)),(true,(R 128,fo "is_name" "is_name" cD.fJ (.str "slicewise.rows" 323) 127)))),(((true,(true,R 135)),(fo "is_operand" "is_operand" cD.d6 (.str "slicewise.rows" 323) 134,(true,true))),((R 142,(fo "is_field" "is_field" cD.gi (.str "slicewise.rows" 323) 141,true)),(true,(R 149,fo "is_key" "is_key" cD.jj (.str "slicewise.rows" 323) 148))))),((((true,(true,R 156)),(fo "is_reckoning" "is_reckoning" cD.cw (.str "slicewise.rows" 323) 155,(true,true))),((R 161,(fo "are_operands" "are_operands" cD.cx (.str "slicewise.rows" 323) 160,true)),(true,(R 166,fo "are_parameters" "are_parameters" cD.cF (.str "slicewise.rows" 323) 165)))),(((true,(true,R 186)),(fo "is_row" "is_row" cD.jo (.str "slicewise.rows" 323) 185,(true,true))),((R 216,(fo "may_stand" "may_stand" cD.e6 (.str "slicewise.programs" 429) 215,true)),((true,R 223),(fo "go_past" "go_past" cD.ej (.str "slicewise.programs" 429) 222,true))))))),((((((true,(R 202,fo "check_rows" "check_rows" cD.d8 (.str "slicewise.programs" 429) 201)),(true,(true,R 209))),((fo "check_blocks" "check_blocks" cD.dn (.str "slicewise.programs" 429) 208,(true,true)),(R 237,(fo "first_defs" "first_defs" cD.d9 (.str "slicewise.programs" 429) 236,true)))),(((true,(R 244,fo "may_call" "may_call" cD.gm (.str "slicewise.programs" 429) 243)),(true,(true,R 230))),((fo "check_calls" "check_calls" cD.dN (.str "slicewise.programs" 429) 229,(true,true)),(R 195,(fo "program_of" "program_of" cD.dm (.str "slicewise.programs" 429) 194,true))))),((((true,(R 277,fo "writes_number" "writes_number" n8.cj (.str "slicewise.texts" 514) 276)),(true,(true,R 272))),((fo "part_of" "part_of" n8.hX (.str "slicewise.texts" 514) 271,(true,true)),(R 265,(fo "row_of" "row_of" n8.jF (.str "slicewise.texts" 514) 264,true)))),(((true,(R 255,fo "line_of" "line_of" n8.hW (.str "slicewise.texts" 514) 254)),(true,(true,R 250))),((fo "written" "written" n8.hV (.str "slicewise.texts" 514) 249,(true,true)),(R 260,(fo "read" "read" n8.rD (.str "slicewise.texts" 514) 259,true)))))),(((((true,(R 284,fo "_law_cell_at" "_law_cell_at" cJ.fP (.str "law_slicewise_k09_programs_written_and_read" 564) 283)),(true,(true,R 291))),((fo "_law_words" "_law_words" cJ.jH (.str "law_slicewise_k09_programs_written_and_read" 564) 290,(true,true)),(R 298,(fo "_law_operand" "_law_operand" cJ.fQ (.str "law_slicewise_k09_programs_written_and_read" 564) 297,true)))),(((true,(R 305,fo "_law_key" "_law_key" cJ.uo (.str "law_slicewise_k09_programs_written_and_read" 564) 304)),(true,(true,R 312))),((fo "_law_call" "_law_call" cJ.s_call (.str "law_slicewise_k09_programs_written_and_read" 564) 311,(true,true)),(R 319,(fo "_law_simple" "_law_simple" cJ.g7 (.str "law_slicewise_k09_programs_written_and_read" 564) 318,true))))),((((true,(R 326,fo "_law_lay" "_law_lay" cJ.uq (.str "law_slicewise_k09_programs_written_and_read" 564) 325)),(true,(true,R 331))),((fo "_law_plan" "_law_plan" cJ.nQ (.str "law_slicewise_k09_programs_written_and_read" 564) 330,(true,true)),(R 338,(fo "_law_program" "_law_program" cJ.fR (.str "law_slicewise_k09_programs_written_and_read" 564) 337,true)))),(((true,(R 350,fo "_law_part" "_law_part" ll.kz (.str "law_slicewise_k09_programs_written_and_read" 564) 349)),(true,(true,R 355))),((fo "_law_same" "_law_same" ll.s_same (.str "law_slicewise_k09_programs_written_and_read" 564) 354,(true,true)),((R 345,fo "_law_line" "_law_line" ll.rN (.str "law_slicewise_k09_programs_written_and_read" 564) 344),(true,true))))))))
theorem zG (w:World) (os:OsState):HD.whole pE qE Ct [] [] GJ FF (HD.kL (w.withFollow "special-get-raises" false).params) (PySem.W.boot_heap (w.withFollow "special-get-raises" false).params) (w.withFollow "special-get-raises" false) 2939 os=some ((true,PySem.W.openGood qE Ct),VV (w.withFollow "special-get-raises" false)):=by
 rw [PySem.W.Fast.te9980987889924229644]
 kernel_rfl
theorem Cu (w:World) (os:OsState):HD.whole pE qE Ct [] [] GJ FF (HD.kL (w.withFollow "special-get-raises" true).params) (PySem.W.boot_heap (w.withFollow "special-get-raises" true).params) (w.withFollow "special-get-raises" true) 2939 os=some ((true,PySem.W.openGood qE Ct),VV (w.withFollow "special-get-raises" true)):=by
 rw [PySem.W.Fast.te9980987889924229644]
 kernel_rfl
theorem TU (w:World) (os:OsState):HD.whole pE qE Ct [] [] GJ FF (HD.kL (w).params) (PySem.W.boot_heap (w).params) (w) 2939 os=some ((true,PySem.W.openGood qE Ct),VV (w)) :=
 PySem.W.byRow2 "special-get-raises" (P:=fun w=>∀ os,HD.whole pE qE Ct [] [] GJ FF (HD.kL (w).params) (PySem.W.boot_heap (w).params) (w) 2939 os=some ((true,PySem.W.openGood qE Ct),VV (w))) zG Cu w os
theorem Kd:PySem.Challenge.rw_slicewise_k09_programs_written_and_read.wellSaid=true:=by kernel_rfl
noncomputable abbrev KE (w:World):PySem.W.Frag:=HD.Kf GJ (HD.qL pE 6558 w)
noncomputable abbrev dE:DefRec:=HD.MN ll.jI
theorem hd:PySem.W.LeftO pE qE Ct (HD.KS qE [] []) (fun s=>GJ.map s.heap.get?) (fun w=>GJ.map (HD.qL pE 6558 w)) 6558∧∀ w,FF (KE w)=VV w:=HD.head (p:=pE) (q:=qE) (loose:=Ct) (lv:=[]) (R:=[]) (as:=GJ) (N:=6558) (M:=2939) (F:=FF) (v:=VV) (by kernel_rfl) rfl (fun s=>by kernel_rfl) rfl TU
theorem Ke {l:PySem.W.OpenLaw} {w:World} {K:PySem.W.Frag} {h:Heap} {mg:Str→Option Value} {fa:Addr} (X:K.In h) (G:h.Ns mainGlobals mg) (V0:mg "law" = some (.ref fa)) (hF:FF K=VV w) :
  ∃ fd:FuncData,(∀ (s:Shared) (v:Value),BindsTo s fd ⟨[v],[]⟩ [("_law_script",v)])∧∀ base:Heap,K.In base→base.Ns mainGlobals mg→dX l.prog w K mg base jN 9 fa fd ["_law_script"] (bR K 1 ll.Fg):=by
 simp only [FF,VV,Prod.mk.injEq] at hF
 obtain ⟨⟨⟨⟨⟨⟨⟨Xz,⟨XA,XB⟩⟩,⟨XC,⟨XD,TV⟩⟩⟩,⟨⟨TX,⟨TY,TZ⟩⟩,⟨T1,⟨T2,T3⟩⟩⟩⟩,⟨⟨⟨T4,⟨cR,rP⟩⟩,⟨rQ,⟨nY,iQ⟩⟩⟩,⟨⟨rR,⟨jJ,Kg⟩⟩,⟨Cv,⟨Cw,Kh⟩⟩⟩⟩⟩,⟨⟨⟨⟨rS,⟨jK,wI⟩⟩,⟨jL,⟨o9,lq⟩⟩⟩,⟨⟨zH,⟨lr,T5⟩⟩,⟨T6,⟨Fq,Fs⟩⟩⟩⟩,⟨⟨⟨Ft,⟨Fu,Ki⟩⟩,⟨Kj,⟨Kk,Kl⟩⟩⟩,⟨⟨Km,⟨Kn,Ko⟩⟩,⟨Kp,⟨Kq,Kr⟩⟩⟩⟩⟩⟩,⟨⟨⟨⟨⟨T7,⟨T8,NO⟩⟩,⟨NP,⟨NQ,NR⟩⟩⟩,⟨⟨T9,⟨T_,T'⟩⟩,⟨Ua,⟨Ub,Uc⟩⟩⟩⟩,⟨⟨⟨Ud,⟨Ue,Ug⟩⟩,⟨Uh,⟨Ui,Uj⟩⟩⟩,⟨⟨Uk,⟨Ul,Um⟩⟩,⟨Uo,⟨Up,Uq⟩⟩⟩⟩⟩,⟨⟨⟨⟨Ur,⟨Us,Ut⟩⟩,⟨Uu,⟨Uv,Uw⟩⟩⟩,⟨⟨Ux,⟨Uy,Uz⟩⟩,⟨UA,⟨UB,UC⟩⟩⟩⟩,⟨⟨⟨UD,⟨UE,UG⟩⟩,⟨UH,⟨UI,UJ⟩⟩⟩,⟨⟨UK,⟨UL,UM⟩⟩,⟨⟨UN,NS⟩,⟨NT,NU⟩⟩⟩⟩⟩⟩⟩,⟨⟨⟨⟨⟨⟨NV,⟨NW,NX⟩⟩,⟨NY,⟨NZ,N0⟩⟩⟩,⟨⟨N1,⟨N2,N3⟩⟩,⟨N4,⟨N5,N6⟩⟩⟩⟩,⟨⟨⟨N7,⟨N8,N9⟩⟩,⟨N_,⟨N',Oa⟩⟩⟩,⟨⟨Ob,⟨Oc,Od⟩⟩,⟨Oe,⟨Of,Og⟩⟩⟩⟩⟩,⟨⟨⟨⟨Oh,⟨Oi,Oj⟩⟩,⟨Ol,⟨Om,Oo⟩⟩⟩,⟨⟨Oq,⟨Ot,Ou⟩⟩,⟨Ov,⟨Ow,Oy⟩⟩⟩⟩,⟨⟨⟨Oz,⟨OA,OB⟩⟩,⟨OC,⟨OD,OE⟩⟩⟩,⟨⟨OF,⟨OG,OH⟩⟩,⟨OI,⟨OJ,OK⟩⟩⟩⟩⟩⟩,⟨⟨⟨⟨⟨OL,⟨OM,ON⟩⟩,⟨OP,⟨OQ,OR⟩⟩⟩,⟨⟨OS,⟨OT,OU⟩⟩,⟨OW,⟨OX,OY⟩⟩⟩⟩,⟨⟨⟨OZ,⟨O0,O3⟩⟩,⟨O5,⟨O6,O7⟩⟩⟩,⟨⟨O8,⟨O9,O_⟩⟩,⟨Pa,⟨Pb,Pc⟩⟩⟩⟩⟩,⟨⟨⟨⟨Pd,⟨Pe,Pf⟩⟩,⟨Pg,⟨Ph,Pj⟩⟩⟩,⟨⟨Pk,⟨Pl,Pm⟩⟩,⟨Pn,⟨Po,Pp⟩⟩⟩⟩,⟨⟨⟨Pq,⟨Pr,Pu⟩⟩,⟨Pw,⟨Px,Py⟩⟩⟩,⟨⟨Pz,⟨PB,PC⟩⟩,⟨⟨PD,PF⟩,⟨PH,PJ⟩⟩⟩⟩⟩⟩⟩⟩:=hF
 have e:=V0.symm.trans (pf X G NO)
 cases e
 have M2:cD.Qx mg:=⟨⟨_,pf X G Xz⟩,⟨_,pf X G XA⟩,⟨_,pf X G XC⟩,(fm X G cR),(fm X G rP),(fm X G rQ),(fm X G nY),(fm X G iQ),(fm X G rR)⟩
 have M3:cD.I8 w K mg:=⟨M2,⟨_,pf X G XD⟩,⟨116,pf X G TY,fun H=>.inr ⟨_,_,_,TZ,rfl,rfl,Gen.small (by simp),.cons ⟨_,rfl⟩ (.cons ⟨_,rfl⟩ (.cons ⟨_,rfl⟩ (.cons ⟨_,rfl⟩ (.cons ⟨_,rfl⟩ (.cons ⟨_,rfl⟩ (.cons ⟨_,rfl⟩ (.nil)))))))⟩⟩,(fm X G cR),(fm X G rP),(fm X G rQ),(fm X G nY),(fm X G iQ),(fm X G rR),(fm X G jJ),(fm X G Kg),(fm X G Cv)⟩
 have M4:cD.Vx w K mg:=⟨M3,⟨167,fun s=>match s with | .nm=>128 | .op=>135 | .key=>149 | .rk=>156 | .par=>166 | .ops=>161,(pf X G T5),fun s=>match s with | .nm=>(pf X G wI) | .op=>(pf X G o9) | .key=>(pf X G zH) | .rk=>(pf X G lq) | .par=>(pf X G jL) | .ops=>(pf X G lr),⟨_,_,T6,(by first | rfl | decide),.cons ⟨rfl,⟨_,rfl⟩,.ref 168,rfl,fun _ _=>bt (vs:=[V.ref 128,V.ref 166]) (.inr ⟨_,_,_,Kr,rfl,rfl,Gen.small (by simp),.cons rfl (.cons rfl (.nil))⟩) (au.cons (by simp only [At]) (au.cons (by simp only [At]) (au.nil)))⟩ (.cons ⟨rfl,⟨_,rfl⟩,.ref 169,rfl,fun _ _=>bt (vs:=[V.ref 135]) (.inr ⟨_,_,_,Kq,rfl,rfl,Gen.small (by simp),.cons rfl (.nil)⟩) (au.cons (by simp only [At]) (au.nil))⟩ (.cons ⟨rfl,⟨_,rfl⟩,.ref 170,rfl,fun _ _=>bt (vs:=[V.ref 128,V.ref 135]) (.inr ⟨_,_,_,Kp,rfl,rfl,Gen.small (by simp),.cons rfl (.cons rfl (.nil))⟩) (au.cons (by simp only [At]) (au.cons (by simp only [At]) (au.nil)))⟩ (.cons ⟨rfl,⟨_,rfl⟩,.ref 171,rfl,fun _ _=>bt (vs:=[V.ref 128,V.ref 135,V.ref 156,V.ref 135]) (.inr ⟨_,_,_,Ko,rfl,rfl,Gen.small (by simp),.cons rfl (.cons rfl (.cons rfl (.cons rfl (.nil))))⟩) (au.cons (by simp only [At]) (au.cons (by simp only [At]) (au.cons (by simp only [At]) (au.cons (by simp only [At]) (au.nil)))))⟩ (.cons ⟨rfl,⟨_,rfl⟩,.ref 172,rfl,fun _ _=>bt (vs:=[V.ref 128]) (.inr ⟨_,_,_,Kn,rfl,rfl,Gen.small (by simp),.cons rfl (.nil)⟩) (au.cons (by simp only [At]) (au.nil))⟩ (.cons ⟨rfl,⟨_,rfl⟩,.ref 173,rfl,fun _ _=>bt (vs:=[V.ref 128,V.ref 128,V.ref 149]) (.inr ⟨_,_,_,Km,rfl,rfl,Gen.small (by simp),.cons rfl (.cons rfl (.cons rfl (.nil)))⟩) (au.cons (by simp only [At]) (au.cons (by simp only [At]) (au.cons (by simp only [At]) (au.nil))))⟩ (.cons ⟨rfl,⟨_,rfl⟩,.ref 174,rfl,fun _ _=>bt (vs:=[V.ref 128,V.ref 149,V.ref 135]) (.inr ⟨_,_,_,Kl,rfl,rfl,Gen.small (by simp),.cons rfl (.cons rfl (.cons rfl (.nil)))⟩) (au.cons (by simp only [At]) (au.cons (by simp only [At]) (au.cons (by simp only [At]) (au.nil))))⟩ (.cons ⟨rfl,⟨_,rfl⟩,.ref 175,rfl,fun _ _=>bt (vs:=[V.ref 128,V.ref 128,V.ref 161]) (.inr ⟨_,_,_,Kk,rfl,rfl,Gen.small (by simp),.cons rfl (.cons rfl (.cons rfl (.nil)))⟩) (au.cons (by simp only [At]) (au.cons (by simp only [At]) (au.cons (by simp only [At]) (au.nil))))⟩ (.cons ⟨rfl,⟨_,rfl⟩,.ref 176,rfl,fun _ _=>bt (vs:=[V.ref 128]) (.inr ⟨_,_,_,Kj,rfl,rfl,Gen.small (by simp),.cons rfl (.nil)⟩) (au.cons (by simp only [At]) (au.nil))⟩ (.cons ⟨rfl,⟨_,rfl⟩,.ref 177,rfl,fun _ _=>bt (vs:=[V.ref 135]) (.inr ⟨_,_,_,Ki,rfl,rfl,Gen.small (by simp),.cons rfl (.nil)⟩) (au.cons (by simp only [At]) (au.nil))⟩ (.cons ⟨rfl,⟨_,rfl⟩,.ref 178,rfl,fun _ _=>bt (vs:=[]) (.inr ⟨_,_,_,Fu,rfl,rfl,Gen.small (by simp),.nil⟩) (au.nil)⟩ (.cons ⟨rfl,⟨_,rfl⟩,.ref 179,rfl,fun _ _=>bt (vs:=[V.ref 135]) (.inr ⟨_,_,_,Ft,rfl,rfl,Gen.small (by simp),.cons rfl (.nil)⟩) (au.cons (by simp only [At]) (au.nil))⟩ (.cons ⟨rfl,⟨_,rfl⟩,.ref 180,rfl,fun _ _=>bt (vs:=[]) (.inr ⟨_,_,_,Fs,rfl,rfl,Gen.small (by simp),.nil⟩) (au.nil)⟩ (.cons ⟨rfl,⟨_,rfl⟩,.ref 181,rfl,fun _ _=>bt (vs:=[]) (.inr ⟨_,_,_,Fq,rfl,rfl,Gen.small (by simp),.nil⟩) (au.nil)⟩ (.nil)))))))))))))),by show ([("def" : Str),("give" : Str),("put" : Str),("do" : Str),("new" : Str),("get" : Str),("set" : Str),("call" : Str),("fail" : Str),("if" : Str),("else" : Str),("while" : Str),("end" : Str),("skip" : Str)]).Nodup; decide +kernel⟩⟩⟩
 have MP:cD.ER w K mg:=⟨⟨_,pf X G TV⟩,⟨187,pf X G T1,fun H=>.inr ⟨_,_,_,T2,rfl,rfl,Gen.small (by simp),.cons ⟨_,rfl⟩ (.cons ⟨_,rfl⟩ (.cons ⟨_,rfl⟩ (.nil)))⟩⟩,⟨188,pf X G T3,fun H=>.inr ⟨_,_,_,T4,rfl,rfl,Gen.small (by simp),.cons ⟨_,rfl⟩ (.cons ⟨_,rfl⟩ (.nil))⟩⟩,(fm X G rS),(fm X G iQ),(fm X G jK)⟩
 have MT:n8.Jy w K mg:=⟨⟨_,pf X G XB⟩,⟨_,pf X G TX⟩,⟨245,(pf X G T7),⟨_,_,T8,(by first | rfl | decide),.cons ⟨rfl,⟨_,rfl⟩,.int 2,⟨_,rfl⟩,fun _ _=>bD⟩ (.cons ⟨rfl,⟨_,rfl⟩,.int 3,⟨_,rfl⟩,fun _ _=>bD⟩ (.nil)),by show ([("def" : Str),("call" : Str)]).Nodup; decide +kernel⟩⟩,(fm X G cR),(fm X G jJ),(fm X G nY),(fm X G rP),(fm X G iQ),(fm X G rR),(fm X G jK)⟩
 have MB:ll.Nx mg:=⟨(fm X G cR),(fm X G nY),(fm X G rP),(fm X G rQ),(fm X G rS),(fm X G jJ),(fm X G iQ),(fm X G Cv),(fm X G rR)⟩
 have ML:ll.VY mg:=⟨(fm X G rS),(fm X G iQ),(fm X G cR),(fm X G nY)⟩
 have MG:cJ.JC mg:=⟨(fm X G iQ),(fm X G Cw),(fm X G jJ),(fm X G Kh)⟩
 obtain ⟨f0,YN,D0⟩:=bz (x:="is_number") (st:=cD.dR) (ps:=["thing"]) X G T9 T_ T' Ua (fun _ _ _ _ _ _=>(bC.bj fun _=>(bC.cp rfl)))
 obtain ⟨f1,YO,D1⟩:=bz (x:="is_name") (st:=cD.fJ) (ps:=["thing"]) X G Ub Uc Ud Ue (fun _ _ _ _ _ _=>(bC.bj fun _=>(bC.cp rfl)))
 obtain ⟨f2,YQ,D2⟩:=bz (x:="is_operand") (st:=cD.d6) (ps:=["thing"]) X G Ug Uh Ui Uj (fun _ _ _ _ _ _=>(bC.bj fun _=>(bC.cp rfl)))
 obtain ⟨f3,YR,D3⟩:=bz (x:="is_field") (st:=cD.gi) (ps:=["thing"]) X G Uk Ul Um Uo (fun _ _ _ _ _ _=>(bC.bj fun _=>(bC.cp rfl)))
 obtain ⟨f4,YS,D4⟩:=bz (x:="is_key") (st:=cD.jj) (ps:=["thing"]) X G Up Uq Ur Us (fun _ _ _ _ _ _=>(bC.bj fun _=>(bC.cp rfl)))
 obtain ⟨f5,YT,D5⟩:=bz (x:="is_reckoning") (st:=cD.cw) (ps:=["thing"]) X G Ut Uu Uv Uw (fun _ _ _ _ _ _=>(bC.bj fun _=>(bC.cp rfl)))
 obtain ⟨f6,YU,D6⟩:=bz (x:="are_operands") (st:=cD.cx) (ps:=["thing"]) X G Ux Uy Uz UA (fun _ _ _ _ _ _=>(bC.bj fun _=>(bC.cp rfl)))
 obtain ⟨f7,YV,D7⟩:=bz (x:="are_parameters") (st:=cD.cF) (ps:=["thing"]) X G UB UC UD UE (fun _ _ _ _ _ _=>(bC.bj fun _=>(bC.cp rfl)))
 obtain ⟨f8,YW,D8⟩:=bz (x:="is_row") (st:=cD.jo) (ps:=["row"]) X G UG UH UI UJ (fun _ _ _ _ _ _=>(bC.bj fun _=>(bC.cp rfl)))
 obtain ⟨f9,YX,D9⟩:=bz (x:="may_stand") (st:=cD.e6) (ps:=["opened","word"]) X G UK UL UM UN (fun _ _ _ _ _ _=>(bC.bj fun _=>(bC.bj fun _=>(bC.cp rfl))))
 obtain ⟨YY,XE,XF⟩:=bz (x:="go_past") (st:=cD.ej) (ps:=["opened","word"]) X G NS NT NU NV (fun _ _ _ _ _ _=>(bC.bj fun _=>(bC.bj fun _=>(bC.cp rfl))))
 obtain ⟨YZ,XG,XH⟩:=bz (x:="check_rows") (st:=cD.d8) (ps:=["program"]) X G NW NX NY NZ (fun _ _ _ _ _ _=>(bC.bj fun _=>(bC.cp rfl)))
 obtain ⟨Y0,XI,XJ⟩:=bz (x:="check_blocks") (st:=cD.dn) (ps:=["program"]) X G N0 N1 N2 N3 (fun _ _ _ _ _ _=>(bC.bj fun _=>(bC.cp rfl)))
 obtain ⟨Y1,XM,XN⟩:=bz (x:="first_defs") (st:=cD.d9) (ps:=["program"]) X G N4 N5 N6 N7 (fun _ _ _ _ _ _=>(bC.bj fun _=>(bC.cp rfl)))
 obtain ⟨Y2,XO,XQ⟩:=bz (x:="may_call") (st:=cD.gm) (ps:=["program","firsts","place"]) X G N8 N9 N_ N' (fun _ _ _ _ _ _=>(bC.bj fun _=>(bC.bj fun _=>(bC.bj fun _=>(bC.cp rfl)))))
 obtain ⟨Y3,XR,XS⟩:=bz (x:="check_calls") (st:=cD.dN) (ps:=["program"]) X G Oa Ob Oc Od (fun _ _ _ _ _ _=>(bC.bj fun _=>(bC.cp rfl)))
 obtain ⟨Y4,XT,XU⟩:=bz (x:="program_of") (st:=cD.dm) (ps:=["rows"]) X G Oe Of Og Oh (fun _ _ _ _ _ _=>(bC.bj fun _=>(bC.cp rfl)))
 obtain ⟨Y5,XW,XY⟩:=bz (x:="writes_number") (st:=n8.cj) (ps:=["word"]) X G Oi Oj Ol Om (fun _ _ _ _ _ _=>(bC.bj fun _=>(bC.cp rfl)))
 obtain ⟨Y6,XZ,X0⟩:=bz (x:="part_of") (st:=n8.hX) (ps:=["word"]) X G Oo Oq Ot Ou (fun _ _ _ _ _ _=>(bC.bj fun _=>(bC.cp rfl)))
 obtain ⟨Y7,X1,X2⟩:=bz (x:="row_of") (st:=n8.jF) (ps:=["line"]) X G Ov Ow Oy Oz (fun _ _ _ _ _ _=>(bC.bj fun _=>(bC.cp rfl)))
 obtain ⟨Y8,X3,X4⟩:=bz (x:="line_of") (st:=n8.hW) (ps:=["row"]) X G OA OB OC OD (fun _ _ _ _ _ _=>(bC.bj fun _=>(bC.cp rfl)))
 obtain ⟨Y9,X5,X6⟩:=bz (x:="written") (st:=n8.hV) (ps:=["program"]) X G OE OF OG OH (fun _ _ _ _ _ _=>(bC.bj fun _=>(bC.cp rfl)))
 obtain ⟨Y_,X7,X8⟩:=bz (x:="read") (st:=n8.rD) (ps:=["text"]) X G OI OJ OK OL (fun _ _ _ _ _ _=>(bC.bj fun _=>(bC.cp rfl)))
 obtain ⟨Y',X9,X_⟩:=bz (x:="_law_cell_at") (st:=cJ.fP) (ps:=["_law_script","_law_k"]) X G OM ON OP OQ (fun _ _ _ _ _ _=>(bC.bj fun _=>(bC.bj fun _=>(bC.cp rfl))))
 obtain ⟨Za,X',Ya⟩:=bz (x:="_law_words") (st:=cJ.jH) (ps:=["_law_cell","_law_many"]) X G OR OS OT OU (fun _ _ _ _ _ _=>(bC.bj fun _=>(bC.bj fun _=>(bC.cp rfl))))
 obtain ⟨Zb,Yb,Yc⟩:=bz (x:="_law_operand") (st:=cJ.fQ) (ps:=["_law_number","_law_words_here"]) X G OW OX OY OZ (fun _ _ _ _ _ _=>(bC.bj fun _=>(bC.bj fun _=>(bC.cp rfl))))
 obtain ⟨Zd,Yd,Ye⟩:=bz (x:="_law_key") (st:=cJ.uo) (ps:=["_law_number","_law_words_here"]) X G O0 O3 O5 O6 (fun _ _ _ _ _ _=>(bC.bj fun _=>(bC.bj fun _=>(bC.cp rfl))))
 obtain ⟨Ze,Yf,Yg⟩:=bz (x:="_law_call") (st:=cJ.s_call) (ps:=["_law_number","_law_name","_law_words_here","_law_later"]) X G O7 O8 O9 O_ (fun _ _ _ _ _ _=>(bC.bj fun _=>(bC.bj fun _=>(bC.bj fun _=>(bC.bj fun _=>(bC.cp rfl))))))
 obtain ⟨Zf,Yh,Yi⟩:=bz (x:="_law_simple") (st:=cJ.g7) (ps:=["_law_number","_law_words_here","_law_later"]) X G Pa Pb Pc Pd (fun _ _ _ _ _ _=>(bC.bj fun _=>(bC.bj fun _=>(bC.bj fun _=>(bC.cp rfl)))))
 obtain ⟨Zg,Yj,Yk⟩:=bz (x:="_law_lay") (st:=cJ.uq) (ps:=["_law_rows","_law_stack","_law_cell","_law_words_here","_law_later"]) X G Pe Pf Pg Ph (fun _ _ _ _ _ _=>(bC.bj fun _=>(bC.bj fun _=>(bC.bj fun _=>(bC.bj fun _=>(bC.bj fun _=>(bC.cp rfl)))))))
 obtain ⟨Zh,Yl,Ym⟩:=bz (x:="_law_plan") (st:=cJ.nQ) (ps:=["_law_cell","_law_words_here"]) X G Pj Pk Pl Pm (fun _ _ _ _ _ _=>(bC.bj fun _=>(bC.bj fun _=>(bC.cp rfl))))
 obtain ⟨Zi,Yn,Yo⟩:=bz (x:="_law_program") (st:=cJ.fR) (ps:=["_law_cells","_law_words_here","_law_plan_here"]) X G Pn Po Pp Pq (fun _ _ _ _ _ _=>(bC.bj fun _=>(bC.bj fun _=>(bC.bj fun _=>(bC.cp rfl)))))
 obtain ⟨Zj,Yp,Yq⟩:=bz (x:="_law_part") (st:=ll.kz) (ps:=["_law_one","_law_other"]) X G Pr Pu Pw Px (fun _ _ _ _ _ _=>(bC.bj fun _=>(bC.bj fun _=>(bC.cp rfl))))
 obtain ⟨Zk,Yr,Ys⟩:=bz (x:="_law_same") (st:=ll.s_same) (ps:=["_law_made","_law_rows"]) X G Py Pz PB PC (fun _ _ _ _ _ _=>(bC.bj fun _=>(bC.bj fun _=>(bC.cp rfl))))
 obtain ⟨Zl,Yt,Yu⟩:=bz (x:="_law_line") (st:=ll.rN) (ps:=["_law_row"]) X G PD PF PH PJ (fun _ _ _ _ _ _=>(bC.bj fun _=>(bC.cp rfl)))
 have F:=AA (st:=ll.jI) NP NQ NR
 have DL:Df K mg "law" ll.jI ["_law_script"] 360 _:=⟨F,V0,F.binds (fun _ _ _ _ _ _=>TR fun _=>rfl)⟩
 refine ⟨PySem.W.fnOf "law" "law" (eX ll.jI) (c8 ll.jI) (ak ll.jI) .none (.none) (.none) (.str "law_slicewise_k09_programs_written_and_read" 564) none (.ref 359) (.none),fun s v=>.of_eq rfl,fun base _ _=>?_⟩
 have uz:=cD.yH (P:=l.prog) (w:=w) (base:=base) D0 M2
 have h7:=cD.Ez (P:=l.prog) (w:=w) (base:=base) D1 M2
 have gr:=cD.iL (P:=l.prog) (w:=w) (base:=base) D2 h7 uz
 have wJ:=cD.tO (P:=l.prog) (w:=w) (base:=base) D3 M3 h7
 have Cy:=cD.yJ (P:=l.prog) (w:=w) (base:=base) D4 M3 wJ gr
 have nZ:=cD.k6 (P:=l.prog) (w:=w) (base:=base) D5 M3
 have g8:=cD.k7 (P:=l.prog) (w:=w) (base:=base) D6 M3 gr
 have kE:=cD.jn (P:=l.prog) (w:=w) (base:=base) D7 M3 g8 h7
 have uA:=cD.yL (P:=l.prog) (w:=w) (base:=base) D8 M4 h7 gr Cy nZ kE g8
 have uB:=cD.q8 (P:=l.prog) (w:=w) (base:=base) D9 MP
 have zI:=cD.vW (P:=l.prog) (w:=w) (base:=base) XF MP
 have rT:=cD.oT (P:=l.prog) (w:=w) (base:=base) XH MP uA
 have n4:=cD.k9 (P:=l.prog) (w:=w) (base:=base) XJ MP uB zI
 have rV:=cD.oU (P:=l.prog) (w:=w) (base:=base) XN MP
 have wK:=cD.uc (P:=l.prog) (w:=w) (base:=base) XQ MP
 have o_:=cD.nA (P:=l.prog) (w:=w) (base:=base) XS MP rV wK
 have rW:=cD.oW (P:=l.prog) (w:=w) (base:=base) XU MP rT n4 o_
 have lu:=n8.ku (P:=l.prog) (w:=w) (base:=base) XY MT
 have zJ:=n8.wj (P:=l.prog) (w:=w) (base:=base) X0 MT lu
 have Cz:=n8.ze (P:=l.prog) (w:=w) (base:=base) X2 MT zJ
 have zK:=n8.wm (P:=l.prog) (w:=w) (base:=base) X4 MT
 have zL:=n8.wo (P:=l.prog) (w:=w) (base:=base) X6 MT zK
 have Ks:=n8.E9 (P:=l.prog) (w:=w) (base:=base) X8 MT Cz uA rW
 have n5:=cJ.wz (P:=l.prog) (w:=w) (base:=base) X_ MG
 have rX:=cJ.B' (P:=l.prog) (w:=w) (base:=base) Ya MG
 have cz:=cJ.iL (P:=l.prog) (w:=w) (base:=base) Yc
 have wL:=cJ.JD (P:=l.prog) (w:=w) (base:=base) Ye cz
 have uC:=cJ.Fe (P:=l.prog) (w:=w) (base:=base) Yg MG cz
 have pb:=cJ.zu (P:=l.prog) (w:=w) (base:=base) Yi cz wL uC
 have wM:=cJ.JJ (P:=l.prog) (w:=w) (base:=base) Yk MG cz pb
 have uD:=cJ.Ff (P:=l.prog) (w:=w) (base:=base) Ym MG
 have n6:=cJ.wB (P:=l.prog) (w:=w) (base:=base) Yo MG cz wM
 have uE:=ll.Fc (P:=l.prog) (w:=w) (base:=base) Yq MB
 have uF:=ll.Fi (P:=l.prog) (w:=w) (base:=base) Ys MB uE
 have uG:=ll.Fj (P:=l.prog) (w:=w) (base:=base) Yu MB
 exact ll.JP (P:=l.prog) (w:=w) (base:=base) DL ML n5 rX uD n6 uG uF zL Ks
theorem walk {l:PySem.W.OpenLaw} {q:Program} {loose:List Str} {XP:(Str→Option Value)→Heap→Prop} {d:DefRec} {K:World→PySem.W.Frag} (hn:l.most=some 63) (RF:d.params.defaults=[])
  (F:∀ (w:World) (mg:Str→Option Value) (fa:Addr) (h:Heap),(K w).In h→h.Ns mainGlobals mg→mg d.name=some (.ref fa) →
    ∃ fd:FuncData,(∀ (s:Shared) (u:Value),BindsTo s fd ⟨[u],[]⟩ [("_law_script",u)])∧∀ base:Heap,(K w).In base→base.Ns mainGlobals mg→dX l.prog w (K w) mg base jN 9 fa fd ["_law_script"] (bR (K w) 1 ll.Fg)) :
  PySem.W.WalkO q loose XP (fun w h=>(K w).In h) l.row.toRowW d [] (fun f vs=>PySem.call f vs):=by
 refine Qe.so hn RF fun w s₀ s₁ mg mb fa o pm cd doc a vs ns G Y ho hd iq L8 HB hints hlen hg=>?_
 obtain ⟨fd,hb,hF⟩:=F w mg fa _ Y G.T.g L8
 exact Az (CX:=jN) (sp:=bR (K w) 1 ll.Fg) (k:=9) Y G.T.g G.T.b G.T.builtins G.T.nolimit hg HB hints (kF hlen (by decide)) ⟨rfl,by decide,by decide⟩ hF hb (fun H _ hS =>
  ⟨[.lst (ns.map .int)],[],[],fun _ r=>r = .vw (.bl true),List.nodup_nil,fun _ z=>(nomatch z),fun _ z=>(nomatch z),gf rfl (au.cons (by
     simp only [At]
     refine ⟨a,ns.map V.int,rfl,hS.imp (fun z=>⟨z,fun m=>nomatch m⟩) id,?_⟩
     clear hS
     clear hints hlen
     induction ns with
     | nil=>exact au.nil
     | cons n ns ih=>exact au.cons bD ih) au.nil),⟨ns,rfl,hlen,rfl⟩,fun us r hr v H' _ z=>by
     subst hr
     have:=z.1
     simpa only [At] using this⟩) fun _ _ _ z=>z
end bC
open PySem PySem.W PyProof.Rows
set_option maxRecDepth 100000 in
set_option maxHeartbeats 0 in
theorem PySem.Challenge.cw_slicewise_k09_programs_written_and_read_holds : PySem.Challenge.rw_slicewise_k09_programs_written_and_read.Holds := by
 w_on
 refine PySem.W.holds_law bC.Kd fun Kd=>?_
 refine PySem.W.holds_openX (q:=bC.qE) (loose:=bC.Ct) (Xt:=HD.KS bC.qE [] []) (XP:=PySem.W.XL bC.qE []) (d:=bC.dE) (kwd:=[]) (N:=6558) bC.hd.1 (fun s e=>PySem.W.xl_of s (Bool.and_eq_true_iff.mp e).1) PySem.W.XL.keeps (by kernel_rfl) (by kernel_rfl) (by kernel_rfl) (fun s e=>PySem.W.recFacts_of (Bool.and_eq_true_iff.mp e).2) (by kernel_rfl) Kd (by kernel_rfl) ⟨rfl,rfl,rfl,rfl,rfl,by decide +kernel⟩ ?hw ?hc
 (case hw=>w_witness2)
 exact HD.Bb (bC.walk (l:=PySem.Challenge.rw_slicewise_k09_programs_written_and_read) (K:=bC.KE) rfl rfl (fun w mg fa h KX G L8=>bC.Ke KX G L8 (bC.hd.2 w)))
