import PyProof.Rows.All
import Wide.All
import OpenK.AllK
import Wide.FinOn
import Lean
import PyProof.EqAt
import PyProof.EqKinds
import PyProof.TupleCall
import PyProof.NeKinds
import PyProof.Rows.SumAny
import PyProof.StrBlockL
import PyProof.StrBlockI
import PyProof.FitsReplace
import PyProof.Rows.SeqMore
import PyProof.Rows.TupAdd
import PyProof.Draws
import PyProof.ZipIter
import OpenK.ZGo
import PyProof.ListNew
import PyProof.Rows.SortStr
import PyProof.Rows.SortWalk
import PyProof.IsRules
import KE.KDictLaws
import PyProof.DictWalks
import PyProof.WalkInts
import PyProof.Rows.BitMore
import PyProof.Rows.SetFrom
import PyProof.SetRoads
import PyProof.SeqRoads2
import PySem.Challenge.RW_slicewise_k51_all_and_none
set_option Elab.async false
set_option linter.all false
set_option maxRecDepth 100000
set_option maxHeartbeats 8000000
abbrev cn:=@List.getElem?_eq_some_iff
abbrev b_:=@List.length_map
abbrev fD:=@List.getElem?_eq_getElem
abbrev c7:=@Bool.false_ne_true
abbrev fF:=@PySem.Heap.get?_push_of_some
abbrev cZ:=@List.mem_cons
abbrev cA:=@Nat.le_refl
abbrev fG:=@List.not_mem_nil
abbrev gw:=@List.getElem?_map
abbrev iw:=@List.mem_cons_self
abbrev ix:=@PySem.W.mg_none_of
abbrev g8:=@List.size_toArray
abbrev jc:=@List.mem_cons_of_mem
abbrev jW:=@List.mem_append_right
abbrev jR:=@List.mem_append_left
abbrev j7:=@List.mem_of_getElem?
abbrev g_:=@List.mem_append
abbrev fM:=@PySem.Heap.lt_size
abbrev oq:=@List.getElem?_append_left
abbrev nH:=@Int.eq_ofNat_of_zero_le
abbrev g9:=@List.map_cons
abbrev sA:=@List.getElem?_append_right
abbrev lT:=@Int.emod_lt_of_pos
abbrev mZ:=@PySem.Heap.get?_push_size
abbrev jd:=@PySem.boot_len
abbrev kB:=@Bool.and_eq_true
abbrev lU:=@Int.toNat_natCast
abbrev nX:=@List.filterMap_cons
abbrev ot:=@List.replicate_succ
abbrev kC:=@Int.emod_nonneg
abbrev je:=@Nat.ne_of_lt
abbrev qg:=@List.getElem?_set_ne
abbrev ou:=@List.mem_singleton
abbrev qd:=@List.length_append
abbrev rf:=@Nat.lt_of_lt_of_le
abbrev uL:=@List.dropLast_concat
abbrev xF:=@PySem.F.slot_list_append
abbrev xG:=@PySem.F.type_list_append
abbrev ow:=@List.nodup_cons
abbrev xt:=@List.length_replicate
abbrev xH:=@List.getElem?_eq_none
abbrev nI:=@Nat.le_trans
abbrev Av:=@List.getElem?_replicate
abbrev xu:=@PySem.F.called_set
abbrev Aw:=@List.getElem?_set_self
abbrev Cn:=@List.length_eq_zero_iff
abbrev Co:=@List.zipWith_cons_cons
abbrev rg:=@PySem.W.mg_of
abbrev xv:=@Nat.lt_succ_self
abbrev qe:=@Nat.zero_le
abbrev xw:=@List.append_nil
abbrev xx:=@List.map_append
abbrev CH:=@List.mem_iff_getElem?
abbrev CI:=@List.zipWith_nil_left
abbrev xy:=@PySem.Heap.size_push
abbrev uN:=@Bool.true_and
abbrev CJ:=@List.forall_mem_cons
abbrev zk:=@PySem.PassesOwn.never
abbrev Gv:=@List.getElem?_range
abbrev Ax:=@List.length_cons
abbrev uO:=@List.mem_map
abbrev Gw:=@List.length_dropLast
abbrev Gx:=@List.getLast?_concat
abbrev xI:=@List.all_cons
abbrev CK:=@List.flatten_cons
abbrev CM:=@List.length_take
abbrev Gy:=@List.ext_getElem?
abbrev Cp:=@List.mem_range
abbrev Cq:=@Bool.false_and
abbrev Cr:=@Nat.lt_irrefl
abbrev GX:=@Nat.lt_succ_of_lt
abbrev GY:=@List.length_range
abbrev Kc:=@PySem.mem_of_lookup
abbrev Lj:=@List.eq_nil_or_concat
abbrev OQ:=@List.concat_eq_append
abbrev Cs:=@List.map_nil
abbrev GZ:=@List.lookup_cons
abbrev G0:=@List.all_eq_true
abbrev PL:=@PyProof.Rows.callWith_type1
abbrev G1:=@Bool.eq_iff_iff
abbrev G2:=@List.length_set
abbrev CN:=@List.all_nil
abbrev G3:=@Bool.and_false
abbrev PM:=@List.getLast?_eq_none_iff
abbrev Gz:=@Nat.ne_of_gt
abbrev GA:=@List.map_map
abbrev OR:=@Array.length_toList
abbrev Ll:=@List.getElem_mem
abbrev OS:=@List.set_cons_succ
abbrev V7:=@PyProof.Rows.F.plain_set_update_loop
abbrev Lm:=@PySem.W.kia_one
abbrev PN:=@PySem.F.slot_dict_get
abbrev UU:=@PySem.F.slot_tuple_iterator_next
abbrev UW:=@List.getD_eq_getElem?_getD
abbrev OT:=@Nat.lt_trichotomy
abbrev UX:=@List.mem_or_eq_of_mem_set
abbrev PQ:=@List.getElem?_mapIdx
abbrev UY:=@List.getLast?_eq_getElem?
abbrev OU:=@Option.bind_some
abbrev OW:=@List.take_length
abbrev PR:=@List.map_congr_left
abbrev V8:=@PyProof.Rows.slot_tuple_getitem
abbrev UZ:=@PySem.F.plainAttrs_list
abbrev U0:=@PySem.F.plainAttrs_dict
abbrev OX:=@Option.map_some
abbrev OY:=@List.find?_cons
abbrev U1:=@PySem.Calls.callWith_builtin
abbrev U2:=@Option.map_eq_some_iff
abbrev U3:=@Int.add_mul_ediv_right
abbrev U4:=@Bool.beq_eq_decide_eq
abbrev OZ:=@List.nodup_nil
abbrev Ln:=@Bool.true_or
abbrev PU:=@List.length_drop
abbrev U5:=@List.mem_of_getLast?
abbrev O0:=@PySem.Paired.length
abbrev O3:=@List.any_cons
abbrev Lo:=@Nat.le_succ
abbrev PV:=@List.mem_filter
abbrev V9:=@List.drop_eq_getElem_cons
abbrev PX:=@List.length_nil
abbrev V_:=@PySem.F.args_tuple_add_2
abbrev U6:=@Nat.lt_of_le_of_lt
abbrev U7:=@List.set_cons_zero
abbrev U8:=@List.mem_replicate
abbrev U9:=@List.zip_cons_cons
abbrev O5:=@Int.zero_add
abbrev U_:=@List.map_replicate
abbrev O6:=@Bool.or_true
abbrev V':=@PySem.F.entry_tuple_add
abbrev Wa:=@List.getElem?_cons_zero
abbrev Wb:=@PySem.F.args_dict_get_2
abbrev Wc:=@Int.ediv_ediv_of_nonneg
abbrev U':=@List.append_assoc
abbrev Va:=@List.getElem?_set
abbrev Wd:=@PySem.F.slot_tuple_add
abbrev We:=@List.getElem?_dropLast
abbrev Wf:=@PySem.F.entry_dict_get
abbrev Wg:=@Int.ediv_eq_zero_of_lt
abbrev PY:=@Bool.false_or
abbrev Vb:=@List.cons_append
namespace L2
open PySem PySem.Spec PyProof.Rows
noncomputable abbrev Key:=Sum Int Str
noncomputable def rh:Key→Value→Bool
 | .inl k,v=>Value.isInt k v
 | .inr x,v=>Value.isStrOf x v
noncomputable def Wh (w:World):Key→Int
 | .inl k=>hashInt k
 | .inr x=>hashStr w x
theorem bR:∀ {k:Key} {v:Value},rh k v=true→(∃ i t,k=Sum.inl i∧v=Value.int i t)∨(∃ x t,k=Sum.inr x∧v=Value.str x t)
 | .inl i,v,h=>by
   obtain ⟨t,e⟩:=Value.isInt_shape (k:=i) (v:=v) h
   exact .inl ⟨i,t,rfl,e⟩
 | .inr x,v,h=>by
   obtain ⟨t,e⟩:=Value.isStrOf_shape (x:=x) (v:=v) h
   exact .inr ⟨x,t,rfl,e⟩
theorem Ay (i:Int) (t:Tok):rh (.inl i) (.int i t)=true:=by simp [rh,Value.isInt]
theorem Az (x:Str) (t:Tok):rh (.inr x) (.str x t)=true:=by simp [rh,Value.isStrOf]
theorem Lp (a b:Int):decide ((Sum.inl a:Key)=Sum.inl b)=(a == b):=by
 by_cases e:a=b
 · subst e; simp
 · have h:¬ (Sum.inl a:Key)=Sum.inl b:=fun q=>e (Sum.inl.inj q)
   rw [decide_eq_false h]
   exact (beq_eq_false_iff_ne.mpr e).symm
theorem Lq (a b:Str):decide ((Sum.inr a:Key)=Sum.inr b)=decide (a=b):=by
 by_cases e:a=b
 · subst e; simp
 · have h:¬ (Sum.inr a:Key)=Sum.inr b:=fun q=>e (Sum.inr.inj q)
   rw [decide_eq_false h,decide_eq_false e]
theorem Lr (a:Int) (b:Str):decide ((Sum.inl a:Key)=Sum.inr b)=false:=decide_eq_false (fun q=>nomatch q)
theorem Ls (a:Str) (b:Int):decide ((Sum.inr a:Key)=Sum.inl b)=false:=decide_eq_false (fun q=>nomatch q)
noncomputable def bz (prog:Program) (w:World):PySem.KeyKind prog w Key where
 is:=rh
 hash:=Wh w
 inj:=fun v a b ha hb=>by
  rcases bR ha with ⟨i,t,rfl,rfl⟩ | ⟨x,t,rfl,rfl⟩
  · rcases bR hb with ⟨j,u,rfl,e⟩ | ⟨y,u,rfl,e⟩
    · injection e with e1 _; rw [e1]
    · exact nomatch e
  · rcases bR hb with ⟨j,u,rfl,e⟩ | ⟨y,u,rfl,e⟩
    · exact nomatch e
    · injection e with e1 _; rw [e1]
 byValue:=fun k v h=>by
  rcases bR h with ⟨i,t,rfl,rfl⟩ | ⟨x,t,rfl,rfl⟩ <;> rfl
 pyHash:=fun hv h=>by
  rcases bR hv with ⟨i,t,rfl,rfl⟩ | ⟨x,t,rfl,rfl⟩
  · exact wpAny_pyHash_int h
  · exact wpAny_pyHash_str h
 eqBool:=fun hu hv h=>by
  rcases bR hu with ⟨i,t,rfl,rfl⟩ | ⟨x,t,rfl,rfl⟩
  · rcases bR hv with ⟨j,u,rfl,rfl⟩ | ⟨y,u,rfl,rfl⟩
    · rw [Lp] at h; exact wpAny_eqBool_int h
    · rw [Lr] at h; exact SeqAt.EqAt.int_str i t y u _ _ _ _ h
  · rcases bR hv with ⟨j,u,rfl,rfl⟩ | ⟨y,u,rfl,rfl⟩
    · rw [Ls] at h; exact SeqAt.EqAt.str_int x t j u _ _ _ _ h
    · rw [Lq] at h; exact wpAny_eqBool_str h
 «strs»:=fun k x t v h=>by
  rcases bR h with ⟨i,u,rfl,e⟩ | ⟨y,u,rfl,e⟩
  · exact nomatch e
  · injection e with e1 _
    subst e1
    cases v <;> rfl
theorem uP (prog:Program) (w:World) (i:Int) (t:Tok):(bz prog w).is (.inl i) (.int i t)=true:=Ay i t
theorem uQ (prog:Program) (w:World) (x:Str) (t:Tok):(bz prog w).is (.inr x) (.str x t)=true:=Az x t
inductive V where
 | bb | bl (b:Bool) | int (i:Int) | str (x:Str) | G4 (b:Array UInt8) | kD (b:UInt64) | ref (a:Addr) | ty (n:String)
 deriving DecidableEq
noncomputable def RelV:V→Value→Prop
 | .bb,u=>u=Value.none
 | .bl b,u=>u=Value.bool b
 | .int i,u=>∃ t,u=Value.int i t
 | .str x,u=>∃ t,u=Value.str x t
 | .G4 b,u=>∃ t,u=Value.bytes b t
 | .kD b,u=>∃ t,u=Value.float b t
 | .ref a,u=>u=Value.ref a
 | .ty n,u=>u=Value.type n
noncomputable abbrev Vals:List V→List Value→Prop:=Paired RelV
theorem Vals.length {xs:List V} {us:List Value} (r:Vals xs us):xs.length=us.length:=O0 r
theorem Vals.get:∀ {xs:List V} {us:List Value} {i:Nat} {x:V},Vals xs us→xs[i]?=some x→∃ u,us[i]?=some u∧RelV x u
 | _,_,_,_,.nil,e=>by simp at e
 | _,_,0,_,.cons r _,e=>by simp at e; subst e; exact ⟨_,rfl,r⟩
 | _,_,i+1,x,.cons _ t,e=>by
   obtain ⟨u,h1,h2⟩:=Vals.get (i:=i) (x:=x) t (by simpa using e)
   exact ⟨u,by simpa using h1,h2⟩
theorem Vals.set {x:V} {u:Value} (r:RelV x u):∀ {xs:List V} {us:List Value} (i:Nat),Vals xs us→Vals (xs.set i x) (us.set i u)
 | _,_,_,.nil=>.nil
 | _,_,0,.cons _ t=>.cons r t
 | _,_,i+1,.cons q t=>.cons q (Vals.set r i t)
theorem Vals.append:∀ {xs ys:List V} {us ws:List Value},Vals xs us→Vals ys ws→Vals (xs ++ ys) (us ++ ws)
 | _,_,_,_,.nil,s=>s
 | _,_,_,_,.cons r t,s=>.cons r (Vals.append t s)
theorem Vals.take:∀ {xs:List V} {us:List Value} (n:Nat),Vals xs us→Vals (xs.take n) (us.take n)
 | _,_,0,_=>.nil
 | _,_,_+1,.nil=>.nil
 | _,_,n+1,.cons r t=>.cons r (Vals.take n t)
theorem Vals.drop:∀ {xs:List V} {us:List Value} (n:Nat),Vals xs us→Vals (xs.drop n) (us.drop n)
 | _,_,0,r=>r
 | _,_,_+1,.nil=>.nil
 | _,_,n+1,.cons _ t=>Vals.drop n t
noncomputable def lV:Option V→Option Value→Prop
 | some v,some u=>RelV v u
 | none,none=>True
 | _,_=>False
noncomputable def KV {κ:Type}:List (κ×V)→List (κ×Value)→Prop:=Paired fun (p:κ×V) (q:κ×Value)=>p.1=q.1∧RelV p.2 q.2
noncomputable def kV:Key→V
 | .inl i=>.int i
 | .inr x=>.str x
inductive HO where
 | lst (xs:List V)
 | tup (xs:List V)
 | dK (bg:List (Key×V)) | dT (bg:List (List Key×V))
 | set (S:Int→Bool) (n:Nat)
 | ins (C dx:Addr) (fs:List (Str×V))
 | own (x:Addr)
 | xd (fs:List (Str×V))
 | met (f x:Addr)
 | Wi (lo hi:Int)
 | uR (o:Obj) (u:HO)
 | Lu (ps:Array Value)
 | ext (φ:Heap→Prop)
noncomputable abbrev Hp:=Addr→Option HO
noncomputable def upd (H:Hp) (a:Addr) (o:HO):Hp:=fun b=>if b=a then some o else H b
theorem a_ {H:Hp} {a:Addr} {o:HO}:upd H a o a=some o:=by unfold upd; rw [if_pos rfl]
theorem aW {H:Hp} {a b:Addr} {o:HO} (h:b≠a):upd H a o b=H b:=by unfold upd; rw [if_neg h]
theorem Ke {H:Hp} {a b:Addr} {o u:HO} (h:H a=some o) (h':H b=some u) (d:o≠u):a≠b:=by
 intro e; subst e; rw [h] at h'; exact d (Option.some.inj h')
theorem bh {H:Hp} {a b:Addr} {o:HO} (h:H a=some o) (h':H b=none):a≠b:=by
 intro e; subst e; rw [h] at h'; cases h'
section
variable (P:Program) (w:World)
noncomputable def bX (H:Hp) (h:Heap) (a:Addr):HO→Prop
 | .lst xs=>xs.length≤sizeLine∧∃ (aP:List Value) (n:Nat),Vals xs aP∧h.get? a=some { cls:=.type "list",data:=.seq aP.toArray n }
 | .tup xs=>xs.length≤sizeLine∧∃ aP:List Value,Vals xs aP∧IsTup h a aP.toArray
 | .dK bg=>bg.length≤sizeLine∧(a == sysModules)=false∧∃ vs,KV bg vs∧h.DictOf (bz P w) a vs
 | .dT bg=>bg.length≤sizeLine∧(a == sysModules)=false∧∃ xs:List (List Key×Addr×Value),
    Paired (fun (p:List Key×V) (q:List Key×Addr×Value)=>p.1=q.1∧H q.2.1=some (.tup (p.1.map kV))∧RelV p.2 q.2.2) bg xs ∧
    ∃ o es ep,h.get? a=some o∧o.ExactDict∧o.data = .dict es ep∧es.toList=xs.map (entryOfKey (tupleKind (bz P w)))∧(xs.map (·.1)).Nodup
 | .set S n=>h.SetOf (intKind P w) a S n
 | .ins C dx fs=>H dx=some (.own a)∧fs.length≤1000∧dx≠a∧h.get? a=some (PySem.W.instObj C dx) ∧
    ∃ mA,h.Ns1 dx mA∧(∀ f,lV (fs.lookup f) (mA f))∧PySem.Within mA (fs.map (·.1))
 | .own _=>∃ o,h.get? a=some o
 | .xd fs=>∃ mA,h.Ns1 a mA∧∀ f,lV (fs.lookup f) (mA f)
 | .Wi lo hi=>∃ t u v,h.get? a=some { cls:=.type "range",data:=.fields #[.int lo t,.int hi u,.int 1 v] }
 | .uR o u=>h.get? a=some o∧bX H h a u
 | .Lu ps=>h.get? a=some { cls:=.none,data:=.fields ps }
 | .met f x=>h.get? a=some (PySem.W.methodObj (.ref f) (.ref x))
 | .ext φ=>φ h∧(∃ o,h.get? a=some o)∧∀ h1 h2:Heap,φ h1→(∀ o,h1.get? a=some o→h2.get? a=some o)→φ h2
noncomputable def kE (H:Hp) (h:Heap):Prop:=∀ a o,H a=some o→bX P w H h a o
end
section
variable {P:Program} {w:World} {H H':Hp} {h h':Heap} {a:Addr} {o:HO}
theorem bX.lt (x:bX P w H h a o):a < h.objs.size:=by
 cases o with
 | lst xs=>obtain ⟨_,_,_,_,e⟩:=x; exact fM e
 | tup xs=>obtain ⟨_,_,_,p⟩:=x; exact p.lt
 | dK bg=>obtain ⟨_,_,_,_,o,_,_,e,_⟩:=x; exact fM e
 | dT bg=>obtain ⟨_,_,_,_,o,_,_,e,_⟩:=x; exact fM e
 | set S n=>obtain ⟨o,_,_,_,e,_⟩:=x; exact fM e
 | ins C dx fs=>obtain ⟨_,_,_,e,_⟩:=x; exact fM e
 | own y=>obtain ⟨_,e⟩:=x; exact fM e
 | xd fs=>obtain ⟨_,⟨_,_,_,e,_⟩,_⟩:=x; exact fM e
 | Wi lo hi=>obtain ⟨_,_,_,e⟩:=x; exact fM e
 | uR ob u=>obtain ⟨e,_⟩:=x; exact fM e
 | Lu ps=>exact fM (show h.get? a=some _ from x)
 | met f y=>exact fM (show h.get? a=some _ from x)
 | ext φ=>obtain ⟨_,⟨_,e⟩,_⟩:=x; exact fM e
theorem Paired.oy {α β:Type} {F G:α→β→Prop}:∀ {l₁:List α} {l₂:List β},Paired F l₁ l₂→(∀ a b,F a b→G a b)→Paired G l₁ l₂
 | _,_,.nil,_=>.nil
 | _,_,.cons r t,f=>.cons (f _ _ r) (Paired.oy t f)
theorem bX.xJ (x:bX P w H h a o) (k:∀ b u,(b=a∨H b=some (.own a))→h.get? b=some u→h'.get? b=some u)
  (ho:∀ b,H b=some (.own a)→H' b=some (.own a)) (ht:∀ b xs,H b=some (.tup xs)→H' b=some (.tup xs)):bX P w H' h' a o:=by
 induction o with
 | lst xs=>obtain ⟨z,aP,n,r,e⟩:=x; exact ⟨z,aP,n,r,k _ _ (.inl rfl) e⟩
 | tup xs=>obtain ⟨z,aP,r,ob,e,c⟩:=x; exact ⟨z,aP,r,ob,k _ _ (.inl rfl) e,c⟩
 | dK bg=>obtain ⟨z,y,vs,r,ob,es,ep,e,c⟩:=x; exact ⟨z,y,vs,r,ob,es,ep,k _ _ (.inl rfl) e,c⟩
 | dT bg =>
   obtain ⟨z,y,xs,r,ob,es,ep,e,c⟩:=x
   exact ⟨z,y,xs,Paired.oy r fun p q z=>⟨z.1,ht _ _ z.2.1,z.2.2⟩,ob,es,ep,k _ _ (.inl rfl) e,c⟩
 | set S n=>obtain ⟨ob,es,ep,t,e,c⟩:=x; exact ⟨ob,es,ep,t,k _ _ (.inl rfl) e,c⟩
 | ins C dx fs =>
   obtain ⟨d,z,ne,e,mA,⟨od,es,ep,e2,c⟩,r⟩:=x
   exact ⟨ho _ d,z,ne,k _ _ (.inl rfl) e,mA,⟨od,es,ep,k _ _ (.inr d) e2,c⟩,r⟩
 | own y=>obtain ⟨ob,e⟩:=x; exact ⟨ob,k _ _ (.inl rfl) e⟩
 | xd fs=>obtain ⟨mA,⟨od,es,ep,e,c⟩,r⟩:=x; exact ⟨mA,⟨od,es,ep,k _ _ (.inl rfl) e,c⟩,r⟩
 | Wi lo hi=>obtain ⟨t,u,v,e⟩:=x; exact ⟨t,u,v,k _ _ (.inl rfl) e⟩
 | uR ob u ih=>obtain ⟨e,q⟩:=x; exact ⟨k _ _ (.inl rfl) e,ih q⟩
 | Lu ps =>
   have e:h.get? a=some { cls:=.none,data:=.fields ps }:=x
   show h'.get? a=some { cls:=.none,data:=.fields ps }
   exact k a _ (.inl rfl) e
 | met f y =>
   have e:h.get? a=some (PySem.W.methodObj (.ref f) (.ref y)):=x
   show h'.get? a=some (PySem.W.methodObj (.ref f) (.ref y))
   exact k a _ (.inl rfl) e
 | ext φ=>obtain ⟨p,⟨o,e⟩,st⟩:=x; exact ⟨st _ _ p fun o q=>k _ _ (.inl rfl) q,⟨o,k _ _ (.inl rfl) e⟩,st⟩
theorem kE.lt (x:kE P w H h) (e:H a=some o):a < h.objs.size:=(x a o e).lt
theorem kE.fresh (x:kE P w H h) (e:h.objs.size≤a):H a=none:=by
 cases q:H a with
 | none=>rfl
 | some u=>exact absurd (rf (x.lt q) e) (Cr _)
theorem kE.kept (x:kE P w H h) (k:∀ b u,h.get? b=some u→h'.get? b=some u):kE P w H h':=fun a o e =>
 (x a o e).xJ (fun b u _ q=>k b u q) (fun _ q=>q) fun _ _ q=>q
theorem kE.laid (x:kE P w H h) (k:∀ b u,h.get? b=some u→h'.get? b=some u) (hp:h.objs.size≤a) (new:bX P w (upd H a o) h' a o):kE P w (upd H a o) h':=fun b u e=>by
 have hn:=x.fresh hp
 by_cases hb:b=a
 · subst hb; rw [a_] at e; cases e; exact new
 · rw [aW hb] at e
   exact (x b u e).xJ (fun c v _ q=>k c v q) (fun c q=>by rw [aW (bh q hn)]; exact q) fun c xs q=>by rw [aW (bh q hn)]; exact q
end
noncomputable def Rd (H:Hp) (a:Addr) (u:HO):Prop:=H a=some u∨∃ o,H a=some (.uR o u)
theorem Rd.ok {P:Program} {w:World} {H:Hp} {h:Heap} {a:Addr} {u:HO} (r:Rd H a u) (x:kE P w H h):bX P w H h a u:=by
 rcases r with r | ⟨o,r⟩
 · exact x a u r
 · obtain ⟨_,q⟩:=x a _ r
   exact q
noncomputable def PZ:Option HO→Prop
 | some (.lst _)=>True
 | some (.dK _)=>True
 | some (.dT _)=>True
 | some (.set _ _)=>True
 | some (.ins _ _ _)=>True
 | some (.ext _)=>True
 | _=>False
section
variable {P:Program} {w:World} {H:Hp} {h h':Heap} {x e:Addr} {o':HO}
theorem kE.write (ok:kE P w H h) (mu:PZ (H x)) (he:e=x∨H e=some (.own x)) (k:∀ b u,b≠e→h.get? b=some u→h'.get? b=some u) (Kg:∃ u,h'.get? e=some u)
  (new:bX P w (upd H x o') h' x o'):kE P w (upd H x o') h':=fun b u q=>by
 have P0:∀ c y,H c=some (.own y)→c≠x:=fun c y r z=>by subst z; rw [r] at mu; exact mu
 have Wj:∀ c xs,H c=some (.tup xs)→c≠x:=fun c xs r z=>by subst z; rw [r] at mu; exact mu
 by_cases hb:b=x
 · subst hb; rw [a_] at q; cases q; exact new
 · rw [aW hb] at q
   by_cases Ct:b=e
   · have q':H b=some (.own x):=by
      rcases he with z | z
      · exact absurd (Ct.trans z) hb
      · rw [Ct]; exact z
     rw [q] at q'; cases q'
     obtain ⟨v,hv⟩:=Kg
     exact ⟨v,by rw [Ct]; exact hv⟩
   · refine (ok b u q).xJ (fun c v hc r=>k c v ?_ r) (fun c r=>by rw [aW (P0 c b r)]; exact r) fun c xs r=>by rw [aW (Wj c xs r)]; exact r
     rcases hc with rfl | hc
     · exact Ct
     · rintro rfl
       rcases he with z | z
       · exact P0 c b hc z
       · rw [hc] at z; cases z; exact hb rfl
end
structure Un (fs ex:List Addr) (H H':Hp) (h h':Heap):Prop where
 keep:∀ b o,h.get? b=some o→H b=none→b∉fs→b∉ex→h'.get? b=some o
 slot:∀ b o,h.get? b=some o→H b=none→b∈fs→b∉ex→∃ sl,h'.get? b=some { o with slots:=sl }
 free:∀ b o,h.get? b=some o→H b=none→b∉ex→H' b=none
 there:∀ b o,h.get? b=some o→b∉ex→∃ o',h'.get? b=some o'
 uS:∀ b xs,H b=some (.tup xs)→H' b=some (.tup xs)
 sC:∀ b o u,H b=some (.uR o u)→H' b=some (.uR o u)
 uT:∀ b ps,H b=some (.Lu ps)→∃ more,H' b=some (.Lu (ps ++ more))
section
variable {fs Wl ex Wm:List Addr} {H H1 H2:Hp} {h h1 h2 h':Heap} {a x e:Addr} {o:HO}
theorem Un.any (u:Un fs ex H H1 h h1) {b:Addr} {ob:Obj} (q:h.get? b=some ob) (n:H b=none) (hx:b∉ex):∃ sl,h1.get? b=some { ob with slots:=sl }:=by
 by_cases hb:b∈fs
 · exact u.slot b ob q n hb hx
 · exact ⟨ob.slots,u.keep b ob q n hb hx⟩
theorem Un.kept (k:∀ b u,h.get? b=some u→h'.get? b=some u):Un fs ex H H h h' :=
 ⟨fun b ob q _ _ _=>k b ob q,fun b ob q _ _ _=>⟨ob.slots,k b ob q⟩,fun _ _ _ n _=>n,fun b ob q _=>⟨ob,k b ob q⟩,fun _ _ q=>q,fun _ _ _ q=>q,fun _ ps q=>⟨#[],by rw [q]; simp⟩⟩
theorem Un.refl:Un fs ex H H h h:=Un.kept fun _ _ q=>q
theorem Un.laid (k:∀ b u,h.get? b=some u→h'.get? b=some u) (hp:h.objs.size≤a) (hn:H a=none):Un fs ex H (upd H a o) h h' where
 keep:=fun b u q _ _ _=>k b u q
 slot:=fun b u q _ _ _=>⟨u.slots,k b u q⟩
 free:=fun b u q n _=>by rw [aW (je (rf (fM q) hp))]; exact n
 there:=fun b u q _=>⟨u,k b u q⟩
 uS:=fun b xs q=>by rw [aW (bh q hn)]; exact q
 sC:=fun b u xs q=>by rw [aW (bh q hn)]; exact q
 uT:=fun b ps q=>⟨#[],by rw [aW (bh q hn),q]; simp⟩
theorem Un.write (mu:PZ (H x)) (he:e=x∨H e=some (.own x)) (k:∀ b u,b≠e→h.get? b=some u→h'.get? b=some u) (Kg:∃ u,h'.get? e=some u):Un fs ex H (upd H x o) h h':=by
 have hx:∀ b,H b=none→b≠x:=fun b n z=>by subst z; rw [n] at mu; exact mu
 have hb:∀ b,H b=none→b≠e:=fun b n z=>by
  subst z
  rcases he with r | r
  · exact hx b n r
  · rw [n] at r; cases r
 have hm:∀ b u,H b=some u→¬ PZ (some u)→b≠x:=fun b u q nm z=>by subst z; rw [q] at mu; exact nm mu
 refine ⟨fun b u q n _ _=>k b u (hb b n) q,fun b u q n _ _=>⟨u.slots,k b u (hb b n) q⟩,fun b u q n _=>by rw [aW (hx b n)]; exact n,fun b u q _=>?_,
  fun b xs q=>by rw [aW (hm b _ q fun z=>z)]; exact q,fun b u xs q=>by rw [aW (hm b _ q fun z=>z)]; exact q,fun b ps q=>⟨#[],by rw [aW (hm b _ q fun z=>z),q]; simp⟩⟩
 by_cases Ct:b=e
 · subst Ct; exact Kg
 · exact ⟨u,k b u Ct q⟩
end
noncomputable def Vc (h:Heap) (H:Hp):List Addr:=(List.range h.objs.size).filter fun a=>(H a).isSome
noncomputable def sD (h:Heap) (H:Hp):Heap:=PySem.W.hideAll h (Vc h H)
theorem AA (h:Heap) (H:Hp):(sD h H).objs.size=h.objs.size:=PySem.W.hideAll_size _ _
theorem CO {h:Heap} {H:Hp} {b:Addr} {o:Obj} (e:h.get? b=some o) (n:H b=none):(sD h H).get? b=some o :=
 PySem.W.hideAll_get _ e fun hm=>by
  have q:(H b).isSome=true:=(PV.mp hm).2
  rw [n] at q; simp at q
theorem G5 {h:Heap} {H:Hp} {b:Addr} {o:Obj} (e:(sD h H).get? b=some o):h.get? b=some o∧H b=none:=by
 have e':h.get? b=some o:=PySem.W.of_hideAll (Vc h H) e
 refine ⟨e',?_⟩
 cases q:H b with
 | none=>rfl
 | some x =>
   have hm:b∈Vc h H:=PV.mpr ⟨Cp.mpr (fM e'),by simp [q]⟩
   have z:(sD h H).get? b=none:=PySem.W.hideAll_none (Vc h H) hm
   rw [z] at e; cases e
noncomputable def G6 (g h:Heap) (L:Addr):List (Addr×Obj):=(List.range h.objs.size).filterMap fun a=>if a=L∨(g.get? a).isSome=true then none else (h.get? a).map fun o=>(a,o)
noncomputable def rest (g h:Heap) (L d:Addr):List (Addr×Obj):=(G6 g h L).filter fun p=>decide (p.1≠d)
structure Mod (K:PySem.W.Frag) (mg:Str→Option Value) (base:Heap):Prop where
 P4:K.In base
 glob:base.Ns mainGlobals mg
 blt:∃ mb,base.Ns builtinsNs mb∧∀ x:Str,x≠"__name__"→mb x=bootBuiltins x
 nolimit:base.NoLimit
structure Cx where
 prog:Program
 w:World
 K:PySem.W.Frag
 mg:Str→Option Value
 base:Heap
 A:Around
 N:List Str
 s₀:Shared
 H₀:Hp
 env:Env
 outer:List Env
 stack:List Env
 ex:List Addr
 fn:Str→Bool
 calm:Bool
 pn:List (Addr×Obj)
 xe:Value→Shared→Prop
noncomputable def Cu (l:List Env):List Addr:=l.filterMap (·.frame)
noncomputable abbrev Cx.fs (X:Cx):List Addr:=Cu X.outer
noncomputable def xA (sc:Scope) (x:Str):Prop:=sc.names.lookup x=some .local∨sc.names.lookup x=some .cell∨sc.names.lookup x=some .free
noncomputable def Loc (sc:Scope) (x:Str):Prop:=sc.names.lookup x=some .local∨sc.names.lookup x=some .cell
noncomputable def Look (env:Env) (h:Heap) (m:Str→Option Value) (x:Str) (u:Value):Prop :=
 (env.kindOf x=some .local∧m x=some u)∨((env.kindOf x=some .cell∨env.kindOf x=some .free)∧∃ c,env.cells.lookup x=some c∧h.IsCell c (some u))
structure Cx.Ok (X:Cx):Prop where
 mod:Mod X.K X.mg X.base
 kind:X.env.scope.kind = .function
 glob:X.env.globals=mainGlobals
 blt:X.env.builtins=builtinsNs
 above:X.s₀.heap.objs.size≤X.env.locals
 inj:∀ x y c,X.env.cells.lookup x=some c→X.env.cells.lookup y=some c→x=y
 has:∀ x,(X.env.kindOf x=some .cell∨X.env.kindOf x=some .free)→∃ c,X.env.cells.lookup x=some c
 Lv:∀ x c,X.fn x=true→X.env.cells.lookup x=some c→X.s₀.heap.objs.size≤c
 hd:X.calm=true→X.A.handled=none
 frames:X.A.frames=some X.stack
 O7:X.stack=X.outer∨(X.stack=X.env :: X.outer∧X.env.frame=some X.env.locals)
 Vd:∀ b∈X.ex,b≠X.env.locals∧∀ x c,X.env.cells.lookup x=some c→c≠b
 bs:∀ b o,X.base.get? b=some o→X.s₀.heap.get? b=some o∧X.H₀ b=none
 Cv:X.base.objs.size≤X.s₀.heap.objs.size
 xK:∀ b o,X.base.get? b=some o→b∉X.ex
 AB:∀ b∈X.ex,b∉X.fs
 kF:X.s₀.heap.FunFrames X.base X.outer
 G7:∀ b∈X.fs,X.H₀ b=none
structure Inv (X:Cx) (pins:List (Addr×Obj)) (σ:List (Option V)) (H:Hp) (s:Shared):Prop where
 ok:X.Ok
 os:s.os=X.s₀.os
 bare:AllBare s.gens
 base:Un X.fs X.ex X.H₀ H X.s₀.heap s.heap
 loc:∃ m,s.heap.Ns X.env.locals m∧∀ (i:Nat) (x:Str) (v:V),X.N[i]?=some x→σ[i]?=some (some v)→xA X.env.scope x→∃ u,RelV v u∧Look X.env s.heap m x u
 cell:∀ x c,X.env.cells.lookup x=some c→∃ v,s.heap.IsCell c v
 free:H X.env.locals=none
 hJ:∀ x c,X.env.cells.lookup x=some c→H c=none
 pin:∀ p∈X.pn ++ pins,s.heap.get? p.1=some p.2∧H p.1=none∧p.1≠X.env.locals∧p.1∉X.fs∧∀ v,p.2.data≠.cell v
 bV:kE X.prog X.w H s.heap
 len:σ.length=X.N.length
section
variable {X:Cx} {pins:List (Addr×Obj)} {σ:List (Option V)} {H H':Hp} {s:Shared} {h':Heap}
theorem Cx.Ok.Wn (ok:X.Ok) {b:Addr} {o:Obj} (e:X.base.get? b=some o):b∉X.fs:=fun hb=>by
 have:=(ok.kF.mem hb).1
 rw [e] at this; cases this
theorem Inv.bs (I:Inv X pins σ H s):∀ b o,X.base.get? b=some o→s.heap.get? b=some o∧H b=none:=fun b o e =>
 ⟨I.base.keep b o (I.ok.bs b o e).1 (I.ok.bs b o e).2 (I.ok.Wn e) (I.ok.xK b o e),I.base.free b o (I.ok.bs b o e).1 (I.ok.bs b o e).2 (I.ok.xK b o e)⟩
theorem Inv.bk (I:Inv X pins σ H s):∀ b o,X.base.get? b=some o→s.heap.get? b=some o:=fun b o e=>(I.bs b o e).1
theorem Inv.mod (I:Inv X pins σ H s):Mod X.K X.mg X.base:=I.ok.mod
theorem Inv.rj (I:Inv X pins σ H s):X.K.In s.heap:=I.ok.mod.P4.keeps I.bk
theorem Inv.fr (I:Inv X pins σ H s):∃ m,Fr X.base X.env.locals s.heap m :=
 let ⟨m,hn,_⟩:=I.loc
 ⟨m,hn,I.bk,nI I.ok.Cv I.ok.above⟩
theorem Inv.lt (I:Inv X pins σ H s):X.env.locals < s.heap.objs.size:=let ⟨_,hn,_⟩:=I.loc; hn.lt
theorem Inv.sz (I:Inv X pins σ H s):X.s₀.heap.objs.size≤s.heap.objs.size:=nI I.ok.above (Nat.le_of_lt I.lt)
theorem Inv.Wo (I:Inv X pins σ H s) {a:Addr} (h:s.heap.objs.size≤a):a∉X.fs:=fun hb=>by
 obtain ⟨_,o,ho,_⟩:=I.ok.kF.mem hb
 exact absurd (rf (fM ho) (nI I.sz h)) (Cr _)
theorem Inv.G8 (I:Inv X pins σ H s):∀ x c,X.env.cells.lookup x=some c→c≠X.env.locals:=fun x c e z=>by
 obtain ⟨v,o,ho,hd⟩:=I.cell x c e
 obtain ⟨m,⟨o',es,ep,gx,AD,_⟩,_⟩:=I.loc
 rw [z,gx] at ho; cases ho; rw [AD] at hd; cases hd
theorem Inv.kF (I:Inv X pins σ H s):s.heap.FunFrames X.base X.outer:=by
 have all:∀ (l:List Env),(∀ b∈Cu l,b∈X.fs)→X.s₀.heap.FunFrames X.base l→s.heap.FunFrames X.base l:=by
  intro l
  induction l with
  | nil=>intro _ _; trivial
  | cons env r ih =>
    intro hs hl
    obtain ⟨hk,⟨L,o,hf,hn,ho,hd⟩,hr⟩:=hl
    have hL:L∈X.fs:=hs L (by unfold Cu; rw [nX,hf]; exact iw)
    obtain ⟨sl,e⟩:=I.base.slot L o ho (I.ok.G7 L hL) hL fun z=>I.ok.AB L z hL
    exact ⟨hk,⟨L,_,hf,hn,e,hd⟩,ih (fun b hb=>hs b (by unfold Cu; rw [nX,hf]; exact jc _ hb)) hr⟩
 exact all X.outer (fun _ hb=>hb) I.ok.kF
theorem Inv.stack (I:Inv X pins σ H s):s.heap.FunFrames X.base X.stack:=by
 rcases I.ok.O7 with e | ⟨e,hf⟩
 · rw [e]; exact I.kF
 · rw [e]
   obtain ⟨m,hn,_⟩:=I.loc
   refine .cons (by rw [I.ok.kind]; decide) hf hn ?_ I.kF
   exact Heap.get?_none_of_le (nI I.ok.Cv I.ok.above)
theorem Inv.xM (I:Inv X pins σ H s):∀ b∈Cu X.stack,b∈X.env.locals :: X.fs:=fun b hb=>by
 rcases I.ok.O7 with e | ⟨e,hf⟩
 · rw [e] at hb; exact jc _ hb
 · rw [e] at hb
   unfold Cu at hb
   rw [nX,hf] at hb
   exact hb
theorem Inv.zl (I:Inv X pins σ H s):∀ b∈Cu X.stack,H b=none:=fun b hb=>by
 rcases cZ.mp (I.xM b hb) with e | hb
 · rw [e]; exact I.free
 · obtain ⟨_,o,ho,_⟩:=I.ok.kF.mem hb
   exact I.base.free b o ho (I.ok.G7 b hb) fun z=>I.ok.AB b z hb
theorem Inv.step {g':Array GenState} {t':Nat} {d':Drawn} {ch:List Addr} (I:Inv X pins σ H s)
  (GB:∀ b∈ch,(b∈X.ex∨X.s₀.heap.objs.size≤b)∧b≠X.env.locals∧(∀ x c,X.env.cells.lookup x=some c→c≠b)∧∀ p∈X.pn ++ pins,p.1≠b)
  (keep:∀ b o,b≠X.env.locals→b∉X.fs→b∉ch→s.heap.get? b=some o→H b=none→h'.get? b=some o)
  (slot:∀ b o,b≠X.env.locals→b∈X.fs→b∉ch→s.heap.get? b=some o→H b=none→∃ sl,h'.get? b=some { o with slots:=sl }) (free:∀ b o,b∉ch→s.heap.get? b=some o→H b=none→H' b=none)
  (there:∀ b o,b∉ch→s.heap.get? b=some o→∃ o',h'.get? b=some o')
  (uS:∀ b xs,H b=some (.tup xs)→H' b=some (.tup xs)) (sC:∀ b o u,H b=some (.uR o u)→H' b=some (.uR o u)) (uT:∀ b ps,H b=some (.Lu ps)→∃ more,H' b=some (.Lu (ps ++ more)))
  (ns:∀ m,s.heap.Ns X.env.locals m→h'.Ns X.env.locals m) (bV:kE X.prog X.w H' h') (hg:AllBare g') :
  Inv X pins σ H' { s with heap:=h',gens:=g',drawn:=d',toks:=t' }:=by
 have ZI:∀ b o,X.s₀.heap.get? b=some o→b≠X.env.locals:=fun b o e=>je (rf (fM e) I.ok.above)
 have Ve:∀ b o,X.s₀.heap.get? b=some o→b∉X.ex→b∉ch:=fun b o e hx hb=>by
  rcases (GB b hb).1 with z | z
  · exact hx z
  · exact absurd (rf (fM e) z) (Cr _)
 have cellK:∀ x c,X.env.cells.lookup x=some c→∀ v,s.heap.IsCell c v→h'.IsCell c v:=fun x c e v ⟨o,ho,hd⟩=>by
  have CP:c∉ch:=fun z=>(GB c z).2.2.1 x c e rfl
  by_cases hc:c∈X.fs
  · obtain ⟨sl,q⟩:=slot c o (I.G8 x c e) hc CP ho (I.hJ x c e)
    exact ⟨_,q,hd⟩
  · exact ⟨o,keep c o (I.G8 x c e) hc CP ho (I.hJ x c e),hd⟩
 refine ⟨I.ok,I.os,hg,⟨fun b o e n hb hx=>?_,fun b o e n hb hx=>?_,fun b o e n hx=>?_,fun b o e hx=>?_,fun b xs e=>uS b xs (I.base.uS b xs e),fun b o xs e=>sC b o xs (I.base.sC b o xs e),fun b ps e=>?_⟩,?_,fun x c e=>?_,?_,fun x c e=>?_,fun p hp=>?_,bV,I.len⟩
 · exact keep b o (ZI b o e) hb (Ve b o e hx) (I.base.keep b o e n hb hx) (I.base.free b o e n hx)
 · obtain ⟨sl,e1⟩:=I.base.slot b o e n hb hx
   obtain ⟨sl',e2⟩:=slot b _ (ZI b o e) hb (Ve b o e hx) e1 (I.base.free b o e n hx)
   exact ⟨sl',e2⟩
 · obtain ⟨o',e1⟩:=I.base.there b o e hx
   exact free b o' (Ve b o e hx) e1 (I.base.free b o e n hx)
 · obtain ⟨o',e1⟩:=I.base.there b o e hx
   exact there b o' (Ve b o e hx) e1
 · obtain ⟨m1,e1⟩:=I.base.uT b ps e
   obtain ⟨m2,e2⟩:=uT b _ e1
   exact ⟨m1 ++ m2,by rw [e2,Array.append_assoc]⟩
 · obtain ⟨m,hn,hl⟩:=I.loc
   refine ⟨m,ns m hn,fun i x v e1 e2 e3=>?_⟩
   obtain ⟨u,r,l⟩:=hl i x v e1 e2 e3
   refine ⟨u,r,?_⟩
   rcases l with l | ⟨k,c,e,z⟩
   · exact .inl l
   · exact .inr ⟨k,c,e,cellK x c e _ z⟩
 · obtain ⟨v,z⟩:=I.cell x c e
   exact ⟨v,cellK x c e v z⟩
 · obtain ⟨m,⟨o,_,_,ho,_⟩,_⟩:=I.loc
   exact free _ o (fun z=>(GB _ z).2.1 rfl) ho I.free
 · obtain ⟨v,o,ho,hd⟩:=I.cell x c e
   exact free c o (fun z=>(GB c z).2.2.1 x c e rfl) ho (I.hJ x c e)
 · obtain ⟨e,n,ne,nf,d⟩:=I.pin p hp
   have CP:p.1∉ch:=fun z=>(GB p.1 z).2.2.2 p hp rfl
   exact ⟨keep p.1 p.2 ne nf CP e n,free p.1 p.2 CP e n,ne,nf,d⟩
theorem Inv.un {t':Nat} (I:Inv X pins σ H s) (u:Un X.fs [] H H' s.heap h') (bV:kE X.prog X.w H' h'):Inv X pins σ H' { s with heap:=h',toks:=t' }:=by
 obtain ⟨m,⟨o,es,ep,ho,r⟩,_⟩:=id I.loc
 obtain ⟨sl,hL⟩:=u.any ho I.free (by simp)
 exact I.step (g':=s.gens) (d':=s.drawn) (ch:=[]) (fun _ z=>nomatch z) (fun b o _ hb _ e n=>u.keep b o e n hb (by simp)) (fun b o _ hb _ e n=>u.slot b o e n hb (by simp)) (fun b o _ e n=>u.free b o e n (by simp)) (fun b o _ e=>u.there b o e (by simp)) u.uS u.sC u.uT (fun m' hm=>by
  obtain ⟨o',Wq,Wr,gx,r'⟩:=hm
  rw [ho] at gx; cases gx
  exact ⟨_,Wq,Wr,hL,r'⟩) bV I.bare
theorem Inv.call {g':Array GenState} {t':Nat} {d':Drawn} {ch:List Addr} (I:Inv X pins σ H s) (u:Un (Cu X.stack) ch H H' s.heap h') (bV:kE X.prog X.w H' h') (hg:AllBare g')
  (GB:∀ b∈ch,(b∈X.ex∨X.s₀.heap.objs.size≤b)∧b≠X.env.locals∧(∀ x c,X.env.cells.lookup x=some c→c≠b)∧∀ p∈X.pn ++ pins,p.1≠b) :
  Inv X pins σ H' { s with heap:=h',gens:=g',drawn:=d',toks:=t' }:=by
 obtain ⟨m,⟨o,es,ep,ho,r⟩,_⟩:=id I.loc
 obtain ⟨sl,hL⟩:=u.any ho I.free fun z=>(GB _ z).2.1 rfl
 exact I.step (ch:=ch) GB (fun b o hL hb hc e n=>u.keep b o e n (fun z=>(cZ.mp (I.xM b z)).elim hL hb) hc) (fun b o _ _ hc e n=>u.any e n hc) (fun b o hc e n=>u.free b o e n hc) (fun b o hc e=>u.there b o e hc) u.uS u.sC u.uT (fun m' hm=>by
  obtain ⟨o',Wq,Wr,gx,r'⟩:=hm
  rw [ho] at gx; cases gx
  exact ⟨_,Wq,Wr,hL,r'⟩) bV hg
theorem Inv.turned {t':Nat} {it:Addr} (I:Inv X pins σ H s) (k:∀ b o,b≠it→s.heap.get? b=some o→h'.get? b=some o) (hn:H it=none) (hL:it≠X.env.locals)
  (h1:it∈X.ex∨X.s₀.heap.objs.size≤it) (h2:∀ x c,X.env.cells.lookup x=some c→c≠it) (h3:∀ p∈X.pn ++ pins,p.1≠it):Inv X pins σ H { s with heap:=h',toks:=t' }:=by
 have ZJ:∀ b u,H b=some u→b≠it:=fun b u e z=>by rw [z,hn] at e; cases e
 refine I.step (g':=s.gens) (d':=s.drawn) (ch:=[it]) (fun b hb=>?_) (fun b o _ _ hc e _=>k b o (fun z=>hc (by simp [z])) e) (fun b o _ _ hc e _=>⟨o.slots,k b o (fun z=>hc (by simp [z])) e⟩) (fun _ _ _ _ n=>n)
  (fun b o hc e=>⟨o,k b o (fun z=>hc (by simp [z])) e⟩) (fun _ _ e=>e) (fun _ _ _ e=>e) (fun b ps e=>⟨#[],by rw [e]; simp⟩) (fun m hm=>?_) (fun b u e=>?_) I.bare
 · have e:b=it:=by simpa using hb
   subst e
   exact ⟨h1,hL,h2,h3⟩
 · obtain ⟨o,es,ep,ho,r⟩:=hm
   exact ⟨o,es,ep,k _ o (Ne.symm hL) ho,r⟩
 · refine (I.bV b u e).xJ (fun c v hc q=>k c v ?_ q) (fun _ q=>q) fun _ _ q=>q
   rcases hc with z | z
   · rw [z]; exact ZJ b u e
   · exact ZJ c _ z
theorem Inv.tok (I:Inv X pins σ H s) (t:Nat):Inv X pins σ H { s with toks:=t }:=I.un (h':=s.heap) (t':=t) Un.refl I.bV
theorem Inv.kept {t':Nat} (I:Inv X pins σ H s) (k:∀ b u,s.heap.get? b=some u→h'.get? b=some u):Inv X pins σ H { s with heap:=h',toks:=t' }:=I.un (Un.kept k) (I.bV.kept k)
theorem Inv.laid {a:Addr} {o:HO} {t':Nat} (I:Inv X pins σ H s) (k:∀ b u,s.heap.get? b=some u→h'.get? b=some u) (hp:s.heap.objs.size≤a) (new:bX X.prog X.w (upd H a o) h' a o) :
 Inv X pins σ (upd H a o) { s with heap:=h',toks:=t' }:=I.un (Un.laid k hp (I.bV.fresh hp)) (I.bV.laid k hp new)
theorem Inv.write {x e:Addr} {o:HO} {t':Nat} (I:Inv X pins σ H s) (mu:PZ (H x)) (he:e=x∨H e=some (.own x)) (k:∀ b u,b≠e→s.heap.get? b=some u→h'.get? b=some u) (Kg:∃ u,h'.get? e=some u)
 (new:bX X.prog X.w (upd H x o) h' x o):Inv X pins σ (upd H x o) { s with heap:=h',toks:=t' }:=I.un (Un.write mu he k Kg) (I.bV.write mu he k Kg new)
theorem Inv.weak {σ':List (Option V)} (I:Inv X pins σ H s) (hl:σ'.length=σ.length) (w:∀ (i:Nat) v,σ'[i]?=some (some v)→σ[i]?=some (some v)):Inv X pins σ' H s :=
 ⟨I.ok,I.os,I.bare,I.base,let ⟨m,hn,Lw⟩:=I.loc; ⟨m,hn,fun i x v e1 e2 e3=>Lw i x v e1 (w i v e2) e3⟩,I.cell,I.free,I.hJ,I.pin,I.bV,hl.trans I.len⟩
theorem Inv.zm {zo:List (Addr×Obj)} (I:Inv X pins σ H s) (h:∀ p∈zo,s.heap.get? p.1=some p.2∧H p.1=none∧p.1≠X.env.locals∧p.1∉X.fs∧∀ v,p.2.data≠.cell v):Inv X zo σ H s :=
 ⟨I.ok,I.os,I.bare,I.base,I.loc,I.cell,I.free,I.hJ,fun p hp=>(g_.mp hp).elim (fun z=>I.pin p (jR _ z)) (h p),I.bV,I.len⟩
theorem uU {N:List Str} (hN:N.Nodup) {i j:Nat} {x:Str} (a:N[i]?=some x) (b:N[j]?=some x):i=j:=by
 obtain ⟨h1,e1⟩:=cn.mp a
 obtain ⟨h2,e2⟩:=cn.mp b
 exact (List.getElem_inj hN).mp (e1.trans e2.symm)
theorem rm {M:Model} {A:Around} {E:Value→Shared→Prop} {i:Nat} {x:Str} {v:V} {u:Value} {Q:Unit→Shared→Prop} (I:Inv X pins σ H s) (hN:X.N.Nodup) (hi:X.N[i]?=some x) (hx:Loc X.env.scope x) (r:RelV v u)
  (h:∀ s',Inv X pins (σ.set i (some v)) H s'→(∃ a,Heap.SameBut a s.heap s'.heap∧(a=X.env.locals∨X.env.cells.lookup x=some a))→Q () s') (hf:X.fn x=true∨X.env.scope.names.lookup x=some .local:=by first | exact .inl rfl | exact .inr rfl | assumption):wpAny M A (storeName X.env x u) Q E s:=by
 obtain ⟨m,hn,hl⟩:=id I.loc
 have Ws:(X.env.scope.kind == .class || (X.env.scope.kind == .module && X.env.locals != X.env.globals))=false:=by rw [I.ok.kind]; rfl
 have ZL:i < σ.length:=by rw [I.len]; exact (cn.mp hi).1
 have G8:=I.G8
 have tracked:∀ {a:Addr} {h':Heap},(∃ o,s.heap.get? a=some o∧H a=none)→Heap.SameBut a s.heap h'→kE X.prog X.w H h':=fun {a h'} ha hs b ob e=>by
  obtain ⟨_,_,Kh⟩:=ha
  refine (I.bV b ob e).xJ (fun c w' hc q=>(hs.2 c ?_).trans q) (fun _ q=>q) fun _ _ q=>q
  rintro rfl
  rcases hc with rfl | hc
  · rw [Kh] at e; cases e
  · rw [Kh] at hc; cases hc
 rcases hx with hk | hk
 · refine wpAny_storeName_local hk hn (fun h' ZM hs=>?_) Ws
   obtain ⟨oL,_,_,hoL,_⟩:=id hn
   refine h _ ⟨I.ok,I.os,I.bare,⟨fun b o e n hb hx=>?_,fun b o e n hb hx=>?_,I.base.free,fun b o e hx=>?_,I.base.uS,I.base.sC,I.base.uT⟩,⟨_,ZM,fun j y v' e1 e2 e3=>?_⟩,fun y c e=>?_,I.free,I.hJ,fun p hp=>?_,tracked ⟨oL,hoL,I.free⟩ hs,by simpa using I.len⟩ ⟨_,hs,.inl rfl⟩
   · exact (hs.2 b (je (rf (fM e) I.ok.above))).trans (I.base.keep b o e n hb hx)
   · obtain ⟨sl,e1⟩:=I.base.slot b o e n hb hx
     exact ⟨sl,(hs.2 b (je (rf (fM e) I.ok.above))).trans e1⟩
   · obtain ⟨o',e1⟩:=I.base.there b o e hx
     exact ⟨o',(hs.2 b (je (rf (fM e) I.ok.above))).trans e1⟩
   · by_cases hj:j=i
     · subst hj
       rw [hi] at e1; cases e1
       rw [Aw ZL] at e2
       cases e2
       exact ⟨u,r,.inl ⟨hk,by simp⟩⟩
     · rw [qg (Ne.symm hj)] at e2
       obtain ⟨u',r',q⟩:=hl j y v' e1 e2 e3
       refine ⟨u',r',?_⟩
       rcases q with ⟨k,e⟩ | ⟨k,c,e,z⟩
       · refine .inl ⟨k,?_⟩
         have:y≠x:=fun e=>hj (uU hN e1 (e▸hi))
         simp [this,e]
       · exact .inr ⟨k,c,e,z.sameBut hs (G8 y c e)⟩
   · obtain ⟨w',z⟩:=I.cell y c e
     exact ⟨w',z.sameBut hs (G8 y c e)⟩
   · obtain ⟨e,n,ne,nf,d⟩:=I.pin p hp
     exact ⟨(hs.2 p.1 ne).trans e,n,ne,nf,d⟩
 · have Wt:X.fn x=true:=by
    rcases hf with z | z
    · exact z
    · rw [z] at hk; cases hk
   obtain ⟨c,hc⟩:=I.ok.has x (.inl hk)
   obtain ⟨w',z⟩:=I.cell x c hc
   refine wpAny_storeName_cell I.ok.kind hk hc z (fun h' jS hs=>?_)
   obtain ⟨oc,ZN,Wu⟩:=id z
   refine h { s with heap:=h' } ⟨I.ok,I.os,I.bare,⟨fun b o e n hb hx=>?_,fun b o e n hb hx=>?_,I.base.free,fun b o e hx=>?_,I.base.uS,I.base.sC,I.base.uT⟩,⟨m,hn.sameBut hs (Ne.symm (G8 x c hc)),fun j y v' e1 e2 e3=>?_⟩,fun y c' e=>?_,I.free,I.hJ,fun p hp=>?_,tracked ⟨oc,ZN,I.hJ x c hc⟩ hs,by simpa using I.len⟩ ⟨c,hs,.inr hc⟩
   · exact (hs.2 b (je (rf (fM e) (I.ok.Lv x c Wt hc)))).trans (I.base.keep b o e n hb hx)
   · obtain ⟨sl,e1⟩:=I.base.slot b o e n hb hx
     exact ⟨sl,(hs.2 b (je (rf (fM e) (I.ok.Lv x c Wt hc)))).trans e1⟩
   · obtain ⟨o',e1⟩:=I.base.there b o e hx
     exact ⟨o',(hs.2 b (je (rf (fM e) (I.ok.Lv x c Wt hc)))).trans e1⟩
   · by_cases hj:j=i
     · subst hj
       rw [hi] at e1; cases e1
       rw [Aw ZL] at e2
       cases e2
       exact ⟨u,r,.inr ⟨.inl hk,c,hc,jS⟩⟩
     · rw [qg (Ne.symm hj)] at e2
       obtain ⟨u',r',q⟩:=hl j y v' e1 e2 e3
       refine ⟨u',r',?_⟩
       rcases q with q | ⟨k,c',e,z'⟩
       · exact .inl q
       · refine .inr ⟨k,c',e,z'.sameBut hs ?_⟩
         rintro rfl
         exact hj (uU hN e1 (I.ok.inj _ _ _ e hc▸hi))
   · by_cases ZO:c'=c
     · subst ZO; exact ⟨_,jS⟩
     · obtain ⟨w2,z2⟩:=I.cell y c' e
       exact ⟨w2,z2.sameBut hs ZO⟩
   · obtain ⟨e,n,ne,nf,d⟩:=I.pin p hp
     refine ⟨(hs.2 p.1 ?_).trans e,n,ne,nf,d⟩
     intro q
     rw [q,ZN] at e
     have q':oc=p.2:=Option.some.inj e
     exact d w' (by rw [← q']; exact Wu)
theorem uV {M:Model} {A:Around} {E:Value→Shared→Prop} {i:Nat} {x:Str} {v:V} {u:Value} {Q:Unit→Shared→Prop} (I:Inv X pins σ H s) (hN:X.N.Nodup) (hi:X.N[i]?=some x) (hx:Loc X.env.scope x) (r:RelV v u)
  (h:∀ s',Inv X pins (σ.set i (some v)) H s'→Q () s') (hf:X.fn x=true∨X.env.scope.names.lookup x=some .local:=by first | exact .inl rfl | exact .inr rfl | assumption):wpAny M A (storeName X.env x u) Q E s :=
 rm I hN hi hx r (fun s' I' _=>h s' I') hf
theorem Inv.P5 {s':Shared} {ch:List Addr} (I:Inv X pins σ H s) (ho:s'.os=s.os) (u:Un (Cu X.stack) ch H H' s.heap s'.heap) (bV:kE X.prog X.w H' s'.heap) (hg:AllBare s'.gens)
  (GB:∀ b∈ch,(b∈X.ex∨X.s₀.heap.objs.size≤b)∧b≠X.env.locals∧(∀ x c,X.env.cells.lookup x=some c→c≠b)∧∀ p∈X.pn ++ pins,p.1≠b):Inv X pins σ H' s':=by
 obtain ⟨h',g',d',t',o'⟩:=s'
 have e:o'=s.os:=ho
 subst e
 exact I.call (g':=g') (t':=t') (d':=d') u bV hg GB
end
noncomputable abbrev XK:=Value→Option Addr→Hp→Prop
noncomputable abbrev St:=List (Option V)
noncomputable abbrev VK:=V→Hp→Prop
noncomputable abbrev TE:=St→Hp→VK→Prop
noncomputable abbrev TT:=St→Hp→(Bool→Hp→Prop)→Prop
noncomputable abbrev TA:=St→Hp→(List V→Hp→Prop)→Prop
structure Ends where
 nx:St→Hp→Prop
 rt:VK
 bk:St→Hp→Prop:=fun _ _=>False
 ct:St→Hp→Prop:=fun _ _=>False
noncomputable abbrev TS:=Ends→St→Hp→Prop
noncomputable def EP (X:Cx) (pins:List (Addr×Obj)) (σ:St) (Q:VK) (u:Value) (s':Shared):Prop:=∃ v H',Inv X pins σ H' s'∧RelV v u∧Q v H'
noncomputable def TP (X:Cx) (pins:List (Addr×Obj)) (σ:St) (Q:Bool→Hp→Prop) (b:Bool) (s':Shared):Prop:=∃ H',Inv X pins σ H' s'∧Q b H'
noncomputable def AP (X:Cx) (pins:List (Addr×Obj)) (σ:St) (Q:List V→Hp→Prop) (us:List Value) (s':Shared):Prop:=∃ vs H',Inv X pins σ H' s'∧Vals vs us∧Q vs H'
noncomputable def SP (X:Cx) (pins:List (Addr×Obj)) (D:Ends) (f:Flow) (s':Shared):Prop :=
 match f with
 | .next=>∃ σ' H',Inv X pins σ' H' s'∧D.nx σ' H'
 | .brk=>∃ σ' H',Inv X pins σ' H' s'∧D.bk σ' H'
 | .cont=>∃ σ' H',Inv X pins σ' H' s'∧D.ct σ' H'
 | .ret u=>∃ v σ' H',Inv X pins σ' H' s'∧RelV v u∧D.rt v H'
noncomputable def PE (X:Cx) (e:Expr) (t:TE):Prop :=
 ∀ (pins:List (Addr×Obj)) (s:Shared) (σ:St) (H:Hp) (Q:VK),Inv X pins σ H s→t σ H Q→wpAny (model X.prog X.w) X.A (eval e X.env) (EP X pins σ Q) X.xe s
noncomputable def PT (X:Cx) (e:Expr) (t:TT):Prop :=
 ∀ (pins:List (Addr×Obj)) (s:Shared) (σ:St) (H:Hp) (Q:Bool→Hp→Prop),Inv X pins σ H s→t σ H Q→wpAny (model X.prog X.w) X.A (isTrue e X.env (eval e X.env)) (TP X pins σ Q) X.xe s
noncomputable def PW (X:Cx) (e:Expr) (t:TT):Prop :=
 ∀ (whole:Sem Value) (pins:List (Addr×Obj)) (s:Shared) (σ:St) (H:Hp) (Q:Bool→Hp→Prop),Inv X pins σ H s→t σ H Q→wpAny (model X.prog X.w) X.A (isTrue e X.env whole) (TP X pins σ Q) X.xe s
theorem PW.pt {X:Cx} {e:Expr} {t:TT} (h:PW X e t):PT X e t:=h _
noncomputable def PA (X:Cx) (es:List Expr) (t:TA):Prop :=
 ∀ (pos:Pos) (pins:List (Addr×Obj)) (s:Shared) (σ:St) (H:Hp) (Q:List V→Hp→Prop),Inv X pins σ H s→t σ H Q→wpAny (model X.prog X.w) X.A (spliced (backTo pos (starEach es X.env))) (AP X pins σ Q) X.xe s
noncomputable def PS (X:Cx) (st:Stmt) (t:TS):Prop :=
 ∀ (pins:List (Addr×Obj)) (s:Shared) (σ:St) (H:Hp) (D:Ends),Inv X pins σ H s→t D σ H→wpAny (model X.prog X.w) X.A (exec st X.env) (SP X pins D) X.xe s
noncomputable def nY (X:Cx) (st:List Stmt) (t:TS):Prop :=
 ∀ (pins:List (Addr×Obj)) (s:Shared) (σ:St) (H:Hp) (D:Ends),Inv X pins σ H s→t D σ H→wpAny (model X.prog X.w) X.A (execs st X.env) (SP X pins D) X.xe s
theorem cb {α:Type} {t:Sem α} {Q Q':α→Shared→Prop} {M:Model} {A:Around} {E:Value→Shared→Prop} {s:Shared} (h:wpAny M A t Q E s) (hQ:∀ a s,Q a s→Q' a s):wpAny M A t Q' E s:=wpAny_mono h hQ fun _ _ x=>x
section
variable {X:Cx}
noncomputable def Wv (i:Nat):TE:=fun σ H Q=>∃ v,σ[i]?=some (some v)∧Q v H
noncomputable def tC (v:V):TE:=fun _ H Q=>Q v H
theorem fm {i:Nat} {x:Str} {pos:Pos} (hN:X.N[i]?=some x) (hv:xA X.env.scope x) (hd:(x == ("__debug__" : Str))=false:=by decide) (j8:(x == ("__classdict__" : Str))=false:=by decide):PE X (.Name x pos) (Wv i):=by
 intro pins s σ H Q I h
 obtain ⟨v,e,h⟩:=h
 obtain ⟨m,hn,hl⟩:=I.loc
 obtain ⟨u,r,l⟩:=hl i x v hN e hv
 have fin:EP X pins σ Q u s:=⟨v,H,I,r,h⟩
 rcases l with ⟨hk,hm⟩ | ⟨hk,c,hc,Ki⟩
 · exact wpAny_Name (wpAny_loadName_local I.ok.kind hk hn hm fin) hd
 · rcases hk with hk | hk
   · exact wpAny_Name (wpAny_loadName_cell I.ok.kind hk hc Ki fin) hd
   · exact wpAny_Name (wpAny_loadName_free I.ok.kind hk hc Ki fin j8) hd
theorem Lx {i j pos}:PE X (.Constant (.int i) j pos) (tC (.int i)):=fun _ _ _ H _ I h=>wpAny_Constant_int ⟨.int i,H,I.tok _,⟨_,rfl⟩,h⟩
theorem P6 {b j pos}:PE X (.Constant (.bool b) j pos) (tC (.bl b)):=fun _ _ _ H _ I h=>Constant_bool ⟨.bl b,H,I,rfl,h⟩
theorem Ly {j pos}:PE X (.Constant .none j pos) (tC .bb):=fun _ _ _ H _ I h=>Constant_none ⟨.bb,H,I,rfl,h⟩
theorem Lz {x j pos}:PE X (.Constant (.str x) j pos) (tC (.str x)):=fun _ _ _ H _ I h=>Calls.Constant_str ⟨.str x,H,I.tok _,⟨_,rfl⟩,h⟩
noncomputable def Gl (X:Cx) (x:Str):Prop:=X.env.kindOf x=some .globalImplicit
theorem sE {E:Value→Shared→Prop} {pins:List (Addr×Obj)} {s:Shared} {σ:St} {H:Hp} {x:Str} {u:Value} {pos:Pos} {Q:Value→Shared→Prop} (I:Inv X pins σ H s) (hg:Gl X x) (hm:X.mg x=some u) (h:Q u s)
  (hd:(x == ("__debug__" : Str))=false:=by decide):wpAny (model X.prog X.w) X.A (eval (.Name x pos) X.env) Q E s :=
 Calls.Name_function_global I.ok.kind hg (Calls.loadGlobal_global (by rw [I.ok.glob]; exact I.mod.glob.keeps I.bk) hm h) hd
theorem j9 {E:Value→Shared→Prop} {pins:List (Addr×Obj)} {s:Shared} {σ:St} {H:Hp} {x:Str} {u:Value} {pos:Pos} {Q:Value→Shared→Prop} (I:Inv X pins σ H s) (hg:Gl X x) (hm:X.mg x=none) (hv:bootBuiltins x=some u) (h:Q u s)
  (hn:x≠"__name__":=by decide) (hd:(x == ("__debug__" : Str))=false:=by decide):wpAny (model X.prog X.w) X.A (eval (.Name x pos) X.env) Q E s:=by
 obtain ⟨mb,h1,h2⟩:=I.mod.blt
 exact Calls.Name_function_global I.ok.kind hg (Calls.loadGlobal_builtin (by rw [I.ok.glob]; exact I.mod.glob.keeps I.bk) hm (by rw [I.ok.blt]; exact h1.keeps I.bk) ((h2 x hn).trans hv) h) hd
theorem zp {x:Str} {v:V} {u:Value} {pos:Pos} (hg:Gl X x) (hm:X.mg x=some u) (r:RelV v u) (hd:(x == ("__debug__" : Str))=false:=by decide):PE X (.Name x pos) (tC v) :=
 fun _ _ _ H _ I h=>sE I hg hm ⟨v,H,I,r,h⟩ hd
theorem G9 {x:Str} {v:V} {u:Value} {pos:Pos} (hg:Gl X x) (hm:X.mg x=none) (hv:bootBuiltins x=some u) (r:RelV v u) (hn:x≠"__name__":=by decide) (hd:(x == ("__debug__" : Str))=false:=by decide):PE X (.Name x pos) (tC v) :=
 fun _ _ _ H _ I h=>j9 I hg hm hv ⟨v,H,I,r,h⟩ hn hd
variable {a b:Expr} {ta tb:TE} {pos:Pos}
noncomputable def tB (t:TE):TT:=fun σ H Q=>t σ H fun x H1=>∃ c,x = .bl c∧Q c H1
theorem LA {e:Expr} {t:TE} (h:PE X e t) (he:∀ whole,isTrue e X.env whole=(do let v ← whole; standAt e.pos; holding [v] (truthy v)):=by intro _; rfl):PT X e (tB t):=by
 intro pins s σ H Q I hw
 refine isTrue_plain (cb (h pins s σ H _ I hw) fun v s1 ⟨x,H1,I1,r1,q1⟩=>?_) (he _)
 obtain ⟨d,rfl,q⟩:=q1
 cases r1
 exact wpAny_truthy_bool ⟨H1,I1,q⟩
variable {tA P7:TT} {rest:List Expr}
noncomputable def Ww (t u:TT):TT:=fun σ H Q=>t σ H fun c H1=>if c=true then u σ H1 Q else Q false H1
noncomputable def tOr (t u:TT):TT:=fun σ H Q=>t σ H fun c H1=>if c=true then Q true H1 else u σ H1 Q
noncomputable def Wx (t:TT):TT:=fun σ H Q=>t σ H fun c H1=>Q (!c) H1
theorem pw_and1 (ha:PT X a tA):PW X (.BoolOp .And [a] pos) tA:=by
 intro wh pins s σ H Q I h
 refine isTrue_and (cb (ha pins s σ H Q I h) fun c s1 e=>?_)
 cases c with
 | true=>exact isTrue_and_nil e
 | false=>exact e
theorem pw_or1 (ha:PT X a tA):PW X (.BoolOp .Or [a] pos) tA:=by
 intro wh pins s σ H Q I h
 refine isTrue_or (cb (ha pins s σ H Q I h) fun c s1 e=>?_)
 cases c with
 | false=>exact isTrue_or_nil e
 | true=>exact e
theorem pw_and (ha:PT X a tA) (hb:PW X (.BoolOp .And (b :: rest) pos) P7):PW X (.BoolOp .And (a :: b :: rest) pos) (Ww tA P7):=by
 intro wh pins s σ H Q I h
 refine isTrue_and (cb (ha pins s σ H _ I h) fun c s1 ⟨H1,I1,q1⟩=>?_)
 cases c with
 | true=>exact hb wh pins s1 σ H1 Q I1 q1
 | false=>exact ⟨H1,I1,q1⟩
theorem pw_or (ha:PT X a tA) (hb:PW X (.BoolOp .Or (b :: rest) pos) P7):PW X (.BoolOp .Or (a :: b :: rest) pos) (tOr tA P7):=by
 intro wh pins s σ H Q I h
 refine isTrue_or (cb (ha pins s σ H _ I h) fun c s1 ⟨H1,I1,q1⟩=>?_)
 cases c with
 | true=>exact ⟨H1,I1,q1⟩
 | false=>exact hb wh pins s1 σ H1 Q I1 q1
theorem LB (ha:PT X a tA):PT X (.UnaryOp .Not a pos) (Wx tA):=by
 intro pins s σ H Q I h
 exact isTrue_not (ha pins s σ H (fun c H1=>Q (!c) H1) I h)
noncomputable def P8 (ta tb:TE):TE:=fun σ H Q=>ta σ H fun x H1=>∃ c,x = .bl c∧if c=true then tb σ H1 Q else Q (.bl false) H1
noncomputable def Wy (ta tb:TE):TE:=fun σ H Q=>ta σ H fun x H1=>∃ c,x = .bl c∧if c=true then Q (.bl true) H1 else tb σ H1 Q
noncomputable def P9 (ta:TE):TE:=fun σ H Q=>ta σ H fun x H1=>∃ c,x = .bl c∧Q (.bl (!c)) H1
theorem LC {op} {t:TE} (h:PE X a t):PE X (.BoolOp op [a] pos) t:=fun pins s σ H Q I hw=>BoolOp_one (h pins s σ H Q I hw)
theorem LD (ha:PE X a ta) (hb:PE X (.BoolOp .And (b :: rest) pos) tb):PE X (.BoolOp .And (a :: b :: rest) pos) (P8 ta tb):=by
 intro pins s σ H Q I h
 refine BoolOp_and (cb (ha pins s σ H _ I h) fun v s1 ⟨x,H1,I1,r1,q1⟩=>?_)
 obtain ⟨c,rfl,q1⟩:=q1
 cases r1
 refine wpAny_truthy_bool ?_
 cases c with
 | true=>exact hb pins s1 σ H1 Q I1 q1
 | false=>exact ⟨.bl false,H1,I1,rfl,q1⟩
theorem P_ (ha:PE X a ta) (hb:PE X (.BoolOp .Or (b :: rest) pos) tb):PE X (.BoolOp .Or (a :: b :: rest) pos) (Wy ta tb):=by
 intro pins s σ H Q I h
 refine BoolOp_or (cb (ha pins s σ H _ I h) fun v s1 ⟨x,H1,I1,r1,q1⟩=>?_)
 obtain ⟨c,rfl,q1⟩:=q1
 cases r1
 refine wpAny_truthy_bool ?_
 cases c with
 | false=>exact hb pins s1 σ H1 Q I1 q1
 | true=>exact ⟨.bl true,H1,I1,rfl,q1⟩
theorem LF (ha:PE X a ta):PE X (.UnaryOp .Not a pos) (P9 ta):=by
 intro pins s σ H Q I h
 refine UnaryOp_ (cb (ha pins s σ H _ I h) fun v s1 ⟨x,H1,I1,r1,q1⟩=>?_)
 obtain ⟨c,rfl,q1⟩:=q1
 cases r1
 exact not_of (wpAny_truthy_bool ⟨.bl (!c),H1,I1,rfl,q1⟩)
noncomputable def tIf (t:TT) (ta tb:TE):TE:=fun σ H Q=>t σ H fun c H1=>if c=true then ta σ H1 Q else tb σ H1 Q
theorem CQ {c:Expr} (hc:PT X c tA) (ha:PE X a ta) (hb:PE X b tb):PE X (.IfExp c a b pos) (tIf tA ta tb):=by
 intro pins s σ H Q I h
 refine wpAny_IfExp (cb (hc pins s σ H _ I h) fun d s1 ⟨H1,I1,q1⟩=>?_)
 cases d with
 | true=>exact ha pins s1 σ H1 Q I1 q1
 | false=>exact hb pins s1 σ H1 Q I1 q1
end
noncomputable def gy (K:PySem.W.Frag) (H:Hp) (a:Addr) (xs:List V):Prop :=
 Rd H a (.lst xs) ∨
  ∃ (o:Obj) (aP:Array Value) (n:Nat),K.lookup a=some o∧o.cls = .type "list"∧o.dict=none∧o.data = .seq aP n∧aP.size≤sizeLine∧Vals xs aP.toList
noncomputable def dZ (K:PySem.W.Frag) (H:Hp) (a:Addr) (xs:List V):Prop :=
 Rd H a (.tup xs) ∨
  ∃ (o:Obj) (aP:Array Value) (n:Nat),K.lookup a=some o∧o.cls = .type "tuple"∧o.data = .seq aP n∧aP.size≤sizeLine∧Vals xs aP.toList
noncomputable def Wz:Value→Option V
 | .none=>some .bb
 | .bool b=>some (.bl b)
 | .int i _=>some (.int i)
 | .str x _=>some (.str x)
 | .bytes b _=>some (.G4 b)
 | .float b _=>some (.kD b)
 | .ref a=>some (.ref a)
 | .type n=>some (.ty n)
 | _=>none
theorem RelV.abs {x:V} {u:Value} (r:RelV x u):Wz u=some x:=by
 cases x with
 | bb=>cases r; rfl
 | bl _=>cases r; rfl
 | ref _=>cases r; rfl
 | ty _=>cases r; rfl
 | _=>obtain ⟨t,rfl⟩:=r; rfl
theorem RelV.inj {x y:V} {u:Value} (r:RelV x u) (q:RelV y u):x=y:=Option.some.inj (r.abs.symm.trans q.abs)
theorem Vals.inj:∀ {xs ys:List V} {us:List Value},Vals xs us→Vals ys us→xs=ys
 | _,_,_,.nil,.nil=>rfl
 | _,_,_,.cons r t,.cons r' t'=>by rw [r.inj r',Vals.inj t t']
section
variable {X:Cx} {pins:List (Addr×Obj)} {σ:St} {H:Hp} {s:Shared} {a:Addr} {xs ys:List V}
theorem gy.of {K:PySem.W.Frag} (h:H a=some (.lst xs)):gy K H a xs:=.inl (.inl h)
theorem dZ.of {K:PySem.W.Frag} (h:H a=some (.tup xs)):dZ K H a xs:=.inl (.inl h)
theorem Inv.list (I:Inv X pins σ H s) (h:gy X.K H a xs):∃ aP:List Value,Vals xs aP∧PlainL s.heap a aP.toArray∧xs.length≤sizeLine:=by
 rcases h with h | ⟨o,aP,n,hk,hc,hd,hs,hz,r⟩
 · obtain ⟨z,aP,n,r,e⟩:=h.ok I.bV
   exact ⟨aP,r,⟨_,n,e,rfl,rfl,rfl⟩,z⟩
 · refine ⟨aP.toList,r,⟨o,n,I.rj a o hk,hc,hd,by simpa using hs⟩,?_⟩
   have e:=r.length
   simp only [OR] at e
   omega
theorem Inv.tuple (I:Inv X pins σ H s) (h:dZ X.K H a xs):∃ aP:List Value,Vals xs aP∧IsTup s.heap a aP.toArray∧xs.length≤sizeLine:=by
 rcases h with h | ⟨o,aP,n,hk,hc,hs,hz,r⟩
 · obtain ⟨z,aP,r,p⟩:=h.ok I.bV
   exact ⟨aP,r,p,z⟩
 · refine ⟨aP.toList,r,⟨o,I.rj a o hk,hc,n,by simpa using hs⟩,?_⟩
   have e:=r.length
   simp only [OR] at e
   omega
theorem Inv.kG (I:Inv X pins σ H s) (h:gy X.K H a xs) (h':gy X.K H a ys):xs=ys:=by
 obtain ⟨aP,r,⟨o,n,e,_,_,d⟩,_⟩:=I.list h
 obtain ⟨its',r',⟨o',n',e',_,_,d'⟩,_⟩:=I.list h'
 rw [e] at e'; cases e'
 rw [d] at d'
 injection d' with d1 _
 have:aP=its':=by simpa using congrArg Array.toList d1
 subst this
 exact r.inj r'
theorem Inv.lW (I:Inv X pins σ H s) (h:dZ X.K H a xs) (h':dZ X.K H a ys):xs=ys:=by
 obtain ⟨aP,r,⟨o,e,_,n,d⟩,_⟩:=I.tuple h
 obtain ⟨its',r',⟨o',e',_,n',d'⟩,_⟩:=I.tuple h'
 rw [e] at e'; cases e'
 rw [d] at d'
 injection d' with d1 _
 have:aP=its':=by simpa using congrArg Array.toList d1
 subst this
 exact r.inj r'
end
noncomputable abbrev Cx.qh (X:Cx) (E:Value→Shared→Prop):Cx:={ X with xe:=E }
noncomputable abbrev Cx.uW (X:Cx):Cx:=X.qh fun _ _=>False
theorem Cx.Ok.qh {X:Cx} (ok:X.Ok) (E:Value→Shared→Prop):(X.qh E).Ok :=
 ⟨ok.mod,ok.kind,ok.glob,ok.blt,ok.above,ok.inj,ok.has,ok.Lv,ok.hd,ok.frames,ok.O7,ok.Vd,ok.bs,ok.Cv,ok.xK,ok.AB,ok.kF,ok.G7⟩
theorem Cx.Ok.lY {X:Cx} {E:Value→Shared→Prop} (ok:(X.qh E).Ok):X.Ok :=
 ⟨ok.mod,ok.kind,ok.glob,ok.blt,ok.above,ok.inj,ok.has,ok.Lv,ok.hd,ok.frames,ok.O7,ok.Vd,ok.bs,ok.Cv,ok.xK,ok.AB,ok.kF,ok.G7⟩
section
variable {X:Cx} {pins:List (Addr×Obj)} {σ:St} {H:Hp} {s:Shared} {E:Value→Shared→Prop}
theorem Inv.qh (I:Inv X pins σ H s) (E:Value→Shared→Prop):Inv (X.qh E) pins σ H s:=⟨I.ok.qh E,I.os,I.bare,I.base,I.loc,I.cell,I.free,I.hJ,I.pin,I.bV,I.len⟩
theorem Inv.lY (I:Inv (X.qh E) pins σ H s):Inv X pins σ H s:=⟨I.ok.lY,I.os,I.bare,I.base,I.loc,I.cell,I.free,I.hJ,I.pin,I.bV,I.len⟩
theorem SP.lY {D:Ends} {f:Flow} {s':Shared} (h:SP (X.qh E) pins D f s'):SP X pins D f s':=by
 cases f with
 | ret u=>obtain ⟨v,σ',H',I,r,q⟩:=h; exact ⟨v,σ',H',I.lY,r,q⟩
 | _=>obtain ⟨σ',H',I,q⟩:=h; exact ⟨σ',H',I.lY,q⟩
theorem nY.uW {st:List Stmt} {t:TS} (h:nY X.uW st t):nY X st t:=fun pins s σ H D I hw =>
 wpAny_mono (h pins s σ H D (I.qh _) hw) (fun _ _ q=>q.lY) fun _ _ z=>False.elim z
end
section
variable {X:Cx} {st:Stmt} {rest:List Stmt} {t u:TS} {e:Expr} {te:TE} {pos:Pos}
noncomputable def P':TS:=fun D σ H=>D.nx σ H
noncomputable def WA (t u:TS):TS:=fun D σ H=>t { D with nx:=u D } σ H
theorem G_:nY X [] P':=fun _ _ σ H _ I h=>wpAny_execs_nil ⟨σ,H,I,h⟩
theorem uX (h1:PS X st t) (h2:nY X rest u):nY X (st :: rest) (WA t u):=by
 intro pins s σ H D I h
 refine wpAny_execs_cons (cb (h1 pins s σ H { D with nx:=u D } I h) fun f s1 q=>?_)
 cases f with
 | next =>
   obtain ⟨σ',H',I',q⟩:=q
   exact h2 pins s1 σ' H' D I' q
 | ret v=>exact q
 | _=>exact q
theorem zq (h1:PS X st t):nY X [st] t:=by
 intro pins s σ H D I h
 refine wpAny_execs_cons (cb (h1 pins s σ H D I h) fun f s1 q=>?_)
 cases f with
 | next=>exact wpAny_execs_nil q
 | ret v=>exact q
 | _=>exact q
theorem Inv.quiet {pins:List (Addr×Obj)} {σ:St} {H:Hp} {s:Shared} (I:Inv X pins σ H s):interactive X.env=false:=by simp [interactive,I.ok.kind]
noncomputable def Qa (te:TE):TS:=fun D σ H=>te σ H fun _ H1=>D.nx σ H1
theorem G' (he:PE X e te) (hs:swapsWith e none pos.line X.env=pure false:=by rfl):PS X (.Expr e pos) (Qa te):=by
 intro pins s σ H D I h
 exact wpAny_Expr_any (cb (he pins s σ H _ I h) fun v s1 ⟨x,H1,I1,r1,q1⟩=>⟨σ,H1,I1,q1⟩) I.quiet hs
noncomputable def WB (te:TE):TS:=fun D σ H=>te σ H D.rt
theorem CS (he:PE X e te):PS X (.Return (some e) pos) (WB te):=by
 intro pins s σ H D I h
 exact wpAny_Return_some (cb (he pins s σ H _ I h) fun v s1 ⟨x,H1,I1,r1,q1⟩=>⟨x,σ,H1,I1,r1,q1⟩)
noncomputable def WC (c:TT) (t u:TS):TS:=fun D σ H=>c σ H fun b H1=>if b=true then t D σ H1 else u D σ H1
theorem Qb {c:Expr} {a b:List Stmt} {tc:TT} (hc:PT X c tc) (ha:nY X a t) (hb:nY X b u):PS X (.If c a b pos) (WC tc t u):=by
 intro pins s σ H D I h
 refine wpAny_If (cb (hc pins s σ H _ I h) fun d s1 ⟨H1,I1,q1⟩=>?_)
 cases d with
 | true=>exact ha pins s1 σ H1 D I1 q1
 | false=>exact hb pins s1 σ H1 D I1 q1
end
noncomputable abbrev TG:=V→St→Hp→(St→Hp→Prop)→Prop
noncomputable abbrev Ha:=List V→St→Hp→(St→Hp→Prop)→Prop
noncomputable def PG (X:Cx) (target:Expr) (t:TG):Prop :=
 ∀ (pins:List (Addr×Obj)) (s:Shared) (σ:St) (H:Hp) (v:V) (u:Value) (Q:St→Hp→Prop),Inv X pins σ H s→RelV v u→t v σ H Q →
  wpAny (model X.prog X.w) X.A (assign target X.env u) (fun _ s'=>∃ σ' H',Inv X pins σ' H' s'∧Q σ' H') X.xe s
noncomputable def CT (X:Cx) (ts:List Expr) (t:Ha):Prop :=
 ∀ (pins:List (Addr×Obj)) (s:Shared) (σ:St) (H:Hp) (vs:List V) (us:List Value) (Q:St→Hp→Prop),Inv X pins σ H s→Vals vs us→t vs σ H Q →
  wpAny (model X.prog X.w) X.A (assignInOrder ((assignEach ts X.env).map (·.2)) us) (fun _ s'=>∃ σ' H',Inv X pins σ' H' s'∧Q σ' H') X.xe s
noncomputable abbrev LG:=V→V→V→Hp→(Hp→Prop)→Prop
noncomputable def Qc (X:Cx) (t:LG):Prop :=
 ∀ (pins:List (Addr×Obj)) (s:Shared) (σ:St) (H:Hp) (o i v:V) (ov iv u:Value) (Q:Hp→Prop),Inv X pins σ H s→RelV o ov→RelV i iv→RelV v u→t o i v H Q →
  wpAny (model X.prog X.w) X.A (setItem ov iv u) (fun _ s'=>∃ H',Inv X pins σ H' s'∧Q H') X.xe s
section
variable {X:Cx} {pos:Pos}
noncomputable def jf (i:Nat):TG:=fun v σ H Q=>Q (σ.set i (some v)) H
theorem Hb {i:Nat} {x:Str} (hN:X.N.Nodup) (hi:X.N[i]?=some x) (hx:Loc X.env.scope x) (hf:X.fn x=true∨X.env.scope.names.lookup x=some .local:=by first | exact .inl rfl | exact .inr rfl | assumption):PG X (.Name x pos) (jf i):=by
 intro pins s σ H v u Q I r h
 exact wpAny_assign_Name (uV I hN hi hx r (fun s' I'=>⟨_,H,I',h⟩) hf)
noncomputable def WD:Ha:=fun vs σ H Q=>vs=[]∧Q σ H
noncomputable def Qd (t:TG) (u:Ha):Ha:=fun vs σ H Q=>∃ v r,vs=v :: r∧t v σ H fun σ' H'=>u r σ' H' Q
theorem Hc:CT X [] WD:=by
 intro pins s σ H vs us Q I r h
 obtain ⟨e,h⟩:=h
 subst e
 cases r
 exact assignInOrder_nil ⟨σ,H,I,h⟩
theorem CU {e:Expr} {es:List Expr} {t:TG} {u:Ha} (h1:PG X e t) (h2:CT X es u)
  (hs:(assignEach (e :: es) X.env).map (·.2)=assign e X.env :: (assignEach es X.env).map (·.2):=by rfl):CT X (e :: es) (Qd t u):=by
 intro pins s σ H vs us Q I r h
 obtain ⟨v,vr,e1,h⟩:=h
 subst e1
 cases r with
 | cons r rr =>
   rw [hs]
   refine assignInOrder_cons (cb (h1 pins s σ H _ _ _ I r h) fun _ s1 ⟨σ1,H1,I1,q1⟩=>?_)
   exact h2 pins s1 σ1 H1 _ _ Q I1 rr q1
noncomputable def WE (K:PySem.W.Frag) (n:Nat) (t:Ha):TG:=fun v σ H Q=>∃ a xs,v = .ref a∧dZ K H a xs∧xs.length=n∧t xs σ H Q
theorem LH {es:List Expr} {k:Nat} {t:Ha} {n:Nat} (hc:X.calm=true) (h:CT X es t)
  (hn:(assignEach es X.env).length=n:=by rfl) (xN:(assignEach es X.env).findIdx? (·.1)=none:=by rfl):PG X (.Tuple es k pos) (WE X.K n t):=by
 intro pins s σ H v u Q I r hw
 obtain ⟨a,xs,e1,hq,hl,hw⟩:=hw
 subst e1
 cases r
 obtain ⟨aP,rv,ht,hz⟩:=I.tuple hq
 refine assign_Tuple_tuple (I.ok.hd hc) ht (by simp [hn,← hl,rv.length]) xN fun h' hx=>?_
 have I1:Inv X pins σ H { s with heap:=h' }:=I.kept (t':=s.toks) fun b o e=>hx b o (je (fM e)) e
 exact h pins _ σ H xs _ Q I1 (by simpa using rv) hw
noncomputable def WG (to ti:TE) (t:LG):TG:=fun v σ H Q=>to σ H fun o H1=>ti σ H1 fun i H2=>t o i v H2 fun H3=>Q σ H3
theorem LI {o i:Expr} {to ti:TE} {t:LG} (ho:PE X o to) (hi:PE X i ti) (hs:Qc X t)
  (ha:∀ v,assign (.Subscript o i pos) X.env v=(do
    let ov ← holding [v] (eval o X.env)
    let iv ← holding [v,ov] (eval i X.env)
    standAt pos
    holding [v,ov,iv] (setItem ov iv v)
    release [v,ov,iv] []):=by intro _; rfl):PG X (.Subscript o i pos) (WG to ti t):=by
 intro pins s σ H v u Q I r h
 rw [ha]
 refine wpAny_bind (wpAny_holding (cb (ho pins s σ H _ I h) fun ov s1 ⟨x,H1,I1,r1,q1⟩=>?_))
 refine wpAny_bind (wpAny_holding (cb (hi pins s1 σ H1 _ I1 q1) fun iv s2 ⟨y,H2,I2,r2,q2⟩=>?_))
 refine wpAny_bind (wpAny_standAt (wpAny_bind (wpAny_holding (cb (hs pins s2 σ H2 x y v ov iv u _ I2 r1 r2 r q2) fun _ s3 ⟨H3,I3,q3⟩=>?_))))
 exact wpAny_release ⟨σ,H3,I3,q3⟩
noncomputable def He (te:TE) (g:TG):TS:=fun D σ H=>te σ H fun x H1=>g x σ H1 D.nx
theorem CV {tg e:Expr} {te:TE} {g:TG} (he:PE X e te) (hg:PG X tg g) (hs:swapsWithSole [tg] e pos.line X.env=pure false:=by rfl) (hw:swappedStores [tg] e X.env=pure none:=by rfl)
  (h1:(assignEach [tg] X.env).map (·.2)=[assign tg X.env]:=by rfl):PS X (.Assign [tg] e pos) (He te g):=by
 intro pins s σ H D I h
 refine wpAny_Assign_stores (cb (he pins s σ H _ I h) fun v s1 ⟨x,H1,I1,r1,q1⟩=>?_) hs hw
 rw [h1]
 exact cb (hg pins s1 σ H1 x v _ I1 r1 q1) fun _ s2 q=>q
theorem CW {i:Nat} {x:Str} {e:Expr} {te:TE} {pos':Pos} (hN:X.N.Nodup) (hi:X.N[i]?=some x) (hx:Loc X.env.scope x) (he:PE X e te) (hs:swapsWith e (some (.Name x pos')) pos.line X.env=pure false:=by rfl) (hf:X.fn x=true∨X.env.scope.names.lookup x=some .local:=by first | exact .inl rfl | exact .inr rfl | assumption) :
  PS X (.Assign [.Name x pos'] e pos) (He te (jf i)):=by
 intro pins s σ H D I h
 refine wpAny_Assign_Name (cb (he pins s σ H _ I h) fun v s1 ⟨y,H1,I1,r1,q1⟩=>?_) hs
 exact uV I1 hN hi hx r1 (fun s2 I2=>⟨_,H1,I2,q1⟩) hf
end
section
variable {X:Cx} {pos:Pos}
end
structure It where
 go:Nat→Hp→Prop
 Qe:Nat→Hp→V→Hp→Prop
 stop:Nat→Hp→Prop
noncomputable def lZ (X:Cx) (pins:List (Addr×Obj)) (H:Hp) (b:Addr):Prop :=
 H b=none∧b≠X.env.locals∧b∉X.fs∧(b∈X.ex∨X.s₀.heap.objs.size≤b)∧(∀ x c,X.env.cells.lookup x=some c→c≠b)∧∀ p∈X.pn ++ pins,p.1≠b
theorem Inv.qi {X:Cx} {pins:List (Addr×Obj)} {σ:St} {H H':Hp} {s:Shared} {b:Addr} (I:Inv X pins σ H s) (hb:s.heap.objs.size≤b) (hn:H' b=none):lZ X pins H' b:=by
 refine ⟨hn,Gz (rf I.lt hb),I.Wo hb,.inr (nI I.sz hb),fun x c e z=>?_,fun p hp z=>?_⟩
 · obtain ⟨v,q⟩:=I.cell x c e
   exact absurd (rf q.lt (by rw [z]; exact hb)) (Cr _)
 · exact absurd (rf (fM (I.pin p hp).1) (by rw [z]; exact hb)) (Cr _)
structure Turn (P:Program) (w:World) (K:PySem.W.Frag) (tg:Expr) (J:It) (fp:List Addr) (it:Addr) (tn:Nat→Heap→Prop):Prop where
 mem:it∈fp
 obj:∀ i h,tn i h→∀ b∈fp,∃ o,h.get? b=some o∧∀ v,o.data≠.cell v
 keep:∀ i h h',tn i h→(∀ b∈fp,∀ o,h.get? b=some o→h'.get? b=some o)→tn i h'
 item:∀ (X:Cx),X.prog=P→X.w=w→X.K=K→X.calm=true→∀ (i:Nat) (pins:List (Addr×Obj)) (s:Shared) (σ:St) (H:Hp) (E:Value→Shared→Prop),Inv X pins σ H s→(∀ b∈fp,lZ X pins H b)→tn i s.heap→J.go i H →
  wpAny (model P w) X.A (pyNext (.ref it)) (fun r s1=>∃ u,r=some u ∧
   wpAny (model P w) X.A (letOwnedTupleGo tg (.ref it) u) (fun _ s2=>∃ x H',Inv X pins σ H' s2∧RelV x u∧J.Qe i H x H'∧tn (i+1) s2.heap∧∀ b∈fp,H' b=none) E s1) E s
 done:∀ (X:Cx),X.prog=P→X.w=w→X.K=K→X.calm=true→∀ (i:Nat) (pins:List (Addr×Obj)) (s:Shared) (σ:St) (H:Hp) (E:Value→Shared→Prop),Inv X pins σ H s→(∀ b∈fp,lZ X pins H b)→tn i s.heap→J.stop i H →
  wpAny (model P w) X.A (pyNext (.ref it)) (fun r s1=>r=none∧Inv X pins σ H s1) E s
 self:∀ (A:Around) (i:Nat) (s:Shared) (Q:Value→Shared→Prop) (E:Value→Shared→Prop),tn i s.heap→Q (.ref it) s→wpAny (model P w) A (pyIter (.ref it)) Q E s
noncomputable abbrev TI:=St→Hp→(It→Hp→Prop)→Prop
noncomputable def ZP (X:Cx) (pins:List (Addr×Obj)) (σ:St) (tg:Expr) (R:It→Hp→Prop) (Vf:Value) (s2:Shared):Prop :=
 ∃ (it:Addr) (fp:List Addr) (tn:Nat→Heap→Prop) (J:It) (H':Hp),Vf = .ref it∧Inv X pins σ H' s2∧Turn X.prog X.w X.K tg J fp it tn∧tn 0 s2.heap∧(∀ b∈fp,lZ X pins H' b)∧R J H'
noncomputable def PI (X:Cx) (tg iter:Expr) (wi:TI):Prop :=
 ∀ (pins:List (Addr×Obj)) (s:Shared) (σ:St) (H:Hp) (R:It→Hp→Prop),Inv X pins σ H s→wi σ H R →
  wpAny (model X.prog X.w) X.A (eval iter X.env) (fun v s1=>wpAny (model X.prog X.w) X.A (pyIter v) (ZP X pins σ tg R) X.xe s1) X.xe s
theorem zt {M:Model} {A:Around} {E:Value→Shared→Prop} {s:Shared} {tg:Expr} {it:Addr} {u:Value} {o:Obj} {n:String} {vs:Array Value} {Q:Unit→Shared→Prop} (ho:s.heap.get? it=some o) (hc:o.cls = .type n) (hd:o.data = .fields vs)
  (hn:["enumerate","zip","dict_itemiterator","dict_reverseitemiterator","odict_iterator","itertools.zip_longest","itertools.pairwise"].contains n=false) (hQ:Q () s):wpAny M A (letOwnedTupleGo tg (.ref it) u) Q E s:=by
 unfold letOwnedTupleGo
 cases tg <;> first
  | exact wpAny_pure hQ
  | (cases u <;> first
      | exact wpAny_pure hQ
      | (refine wpAny_bind (wpAny_load ho ?_)
         rw [hc,hd]
         show wpAny M A (if (["enumerate","zip","dict_itemiterator","dict_reverseitemiterator","odict_iterator","itertools.zip_longest","itertools.pairwise"].contains n && vs[0]? == some (rawInt _))=true then _ else _) Q E s
         rw [if_neg (by intro h; rw [hn,Cq] at h; cases h)]
         exact wpAny_pure hQ))
noncomputable def WH (K:PySem.W.Frag) (a:Addr):It :=
 ⟨fun i H=>∃ xs x,gy K H a xs∧xs[i]?=some x,fun i H x H'=>H'=H∧∀ xs,gy K H a xs→xs[i]?=some x,fun i H=>∃ xs,gy K H a xs∧xs.length≤i⟩
noncomputable def WI (K:PySem.W.Frag) (a:Addr):It :=
 ⟨fun i H=>∃ xs x,dZ K H a xs∧xs[i]?=some x,fun i H x H'=>H'=H∧∀ xs,dZ K H a xs→xs[i]?=some x,fun i H=>∃ xs,dZ K H a xs∧xs.length≤i⟩
noncomputable def Qf (lo:Int) (n:Nat):It:=⟨fun i _=>i < n,fun i H x H'=>H'=H∧x = .int (lo+i),fun i _=>n≤i⟩
theorem AE {P:Program} {w:World} {K:PySem.W.Frag} {tg:Expr} (a it:Addr):Turn P w K tg (WH K a) [it] it (fun i h=>h.IsListIter it a i) where
 mem:=by simp
 obj:=fun i h st b hb=>by
  have e:b=it:=by simpa using hb
  subst e
  obtain ⟨o,e,c,d⟩:=st
  exact ⟨o,e,fun v z=>by rw [d] at z; cases z⟩
 keep:=fun i h h' st k=>st.at fun o e=>k it (by simp) o e
 item:=by
  intro X hP hw hK hc i pins s σ H E I hf st hg
  subst hP hw hK
  obtain ⟨xs,x,hq,hx⟩:=hg
  obtain ⟨aP,rv,p,hz⟩:=I.list hq
  obtain ⟨u,hu,ru⟩:=rv.get hx
  obtain ⟨f0,f1,f2,f3,f4,f5⟩:=hf it (by simp)
  refine wpAny_pyNext_list_item st p.isList (x:=u) (by simpa using hu) fun h' xO sb=>?_
  have I1:Inv X pins σ H { s with heap:=h' }:=I.turned (t':=s.toks) (fun b o hb e=>(sb.2 b hb).trans e) f0 f1 f3 f4 f5
  obtain ⟨o,e,c,d⟩:=id xO
  exact ⟨u,rfl,zt (s:={ s with heap:=h' }) e c d (by decide) ⟨x,H,I1,ru,⟨rfl,fun ys hy=>by rw [I.kG hy hq]; exact hx⟩,xO,fun b hb=>(hf b hb).1⟩⟩
 done:=by
  intro X hP hw hK hc i pins s σ H E I hf st hg
  subst hP hw hK
  obtain ⟨xs,hq,hx⟩:=hg
  obtain ⟨aP,rv,p,hz⟩:=I.list hq
  obtain ⟨f0,f1,f2,f3,f4,f5⟩:=hf it (by simp)
  have hl:=rv.length
  exact wpAny_pyNext_list_end (I.ok.hd hc) st p.isList (by simp; omega) fun h' eb=>⟨rfl,I.turned (t':=s.toks) (fun b o hb e=>eb b o hb e) f0 f1 f3 f4 f5⟩
 self:=fun _ _ _ _ _ st h=>wpAny_pyIter_listiter st h
theorem xP {P:Program} {w:World} {K:PySem.W.Frag} {tg:Expr} (a it:Addr):Turn P w K tg (WI K a) [it] it (fun i h=>h.IsTupleIter it a i) where
 mem:=by simp
 obj:=fun i h st b hb=>by
  have e:b=it:=by simpa using hb
  subst e
  obtain ⟨o,e,c,d⟩:=st
  exact ⟨o,e,fun v z=>by rw [d] at z; cases z⟩
 keep:=fun i h h' st k=>st.at fun o e=>k it (by simp) o e
 item:=by
  intro X hP hw hK hc i pins s σ H E I hf st hg
  subst hP hw hK
  obtain ⟨xs,x,hq,hx⟩:=hg
  obtain ⟨aP,rv,p,hz⟩:=I.tuple hq
  obtain ⟨u,hu,ru⟩:=rv.get hx
  obtain ⟨f0,f1,f2,f3,f4,f5⟩:=hf it (by simp)
  refine wpAny_pyNext_tuple_item st (show s.heap.IsTuple a aP.toArray from p) (x:=u) (by simpa using hu) fun h' xO sb=>?_
  have I1:Inv X pins σ H { s with heap:=h' }:=I.turned (t':=s.toks) (fun b o hb e=>(sb.2 b hb).trans e) f0 f1 f3 f4 f5
  obtain ⟨o,e,c,d⟩:=id xO
  exact ⟨u,rfl,zt (s:={ s with heap:=h' }) e c d (by decide) ⟨x,H,I1,ru,⟨rfl,fun ys hy=>by rw [I.lW hy hq]; exact hx⟩,xO,fun b hb=>(hf b hb).1⟩⟩
 done:=by
  intro X hP hw hK hc i pins s σ H E I hf st hg
  subst hP hw hK
  obtain ⟨xs,hq,hx⟩:=hg
  obtain ⟨aP,rv,p,hz⟩:=I.tuple hq
  obtain ⟨f0,f1,f2,f3,f4,f5⟩:=hf it (by simp)
  have hl:=rv.length
  exact wpAny_pyNext_tuple_end (I.ok.hd hc) st (show s.heap.IsTuple a aP.toArray from p) (by simp; omega) fun h' eb=>⟨rfl,I.turned (t':=s.toks) (fun b o hb e=>eb b o hb e) f0 f1 f3 f4 f5⟩
 self:=fun _ _ _ _ _ st h=>wpAny_pyIter_tupleiter st h
theorem xQ {P:Program} {w:World} {K:PySem.W.Frag} {tg:Expr} (it:Addr) (lo:Int) (n:Nat):Turn P w K tg (Qf lo n) [it] it (fun i h=>IsRangeIter h it (lo+(i:Nat) * 1) ((n:Int) - (i:Nat)) 1) where
 mem:=by simp
 obj:=fun i h st b hb=>by
  have e:b=it:=by simpa using hb
  subst e
  exact ⟨_,st,fun v z=>by
   have z':Data.fields _=Data.cell v:=z
   cases z'⟩
 keep:=fun i h h' st k=>k it (by simp) _ st
 item:=by
  intro X hP hw hK hc i pins s σ H E I hf st hg
  subst hP hw hK
  obtain ⟨f0,f1,f2,f3,f4,f5⟩:=hf it (by simp)
  have W:=Walks.range (prog:=X.prog) (w:=X.w) (I.ok.hd hc) it lo 1 n
  refine W.item i s _ _ hg st fun v h' tk hv xO kk=>?_
  obtain ⟨t,rfl⟩:=hv
  have I1:Inv X pins σ H { s with heap:=h',toks:=tk }:=I.turned (fun b o hb e=>kk b o (by simpa using hb) e) f0 f1 f3 f4 f5
  refine ⟨_,rfl,zt (s:={ s with heap:=h',toks:=tk }) (n:="range_iterator") xO rfl rfl (by decide) ⟨.int (lo+i),H,I1,⟨t,?_⟩,⟨rfl,rfl⟩,xO,fun b hb=>(hf b hb).1⟩⟩
  rw [Int.mul_one]
 done:=by
  intro X hP hw hK hc i pins s σ H E I hf st hg
  subst hP hw hK
  obtain ⟨f0,f1,f2,f3,f4,f5⟩:=hf it (by simp)
  exact wpAny_pyNext_range_end (I.ok.hd hc) st (by have:n≤i:=hg; omega) fun h' eb=>⟨rfl,I.turned (t':=s.toks) (fun b o hb e=>eb b o hb e) f0 f1 f3 f4 f5⟩
 self:=fun _ _ _ _ _ st h=>wpAny_pyIter_rangeiter st h
section
variable {X:Cx} {tg:Expr}
theorem uY {pins:List (Addr×Obj)} {σ:St} {H:Hp} {s:Shared} {R:It→Hp→Prop} {E:Value→Shared→Prop} {lo hi:Int} {t u v:Tok} {tk:Nat} (I:Inv X pins σ H s) (h1 : -(2 ^ 62)≤lo) (h2:lo < 2 ^ 62) (h3 : -(2 ^ 62)≤hi) (h4:hi < 2 ^ 62)
  (q:R (Qf lo (hi - lo).toNat) H):wpAny (model X.prog X.w) X.A (pyIter (.ref s.heap.objs.size)) (ZP X pins σ tg R) E { s with heap:=s.heap.push { cls:=.type "range",data:=.fields #[.int lo t,.int hi u,.int 1 v] },toks:=tk }:=by
 refine wpAny_pyIter_range (IsRange.new ..) (small_one h1 h2 h3 h4) ?_
 have I1:Inv X pins σ H { s with heap:=s.heap.push { cls:=.type "range",data:=.fields #[.int lo t,.int hi u,.int 1 v] },toks:=tk }:=I.kept fun b o e=>fF _ e
 refine ⟨(s.heap.push { cls:=.type "range",data:=.fields #[.int lo t,.int hi u,.int 1 v] }).objs.size,[(s.heap.push { cls:=.type "range",data:=.fields #[.int lo t,.int hi u,.int 1 v] }).objs.size],_,_,H,rfl,
  I1.kept (t':=tk) fun b o e=>fF _ e,xQ _ lo (hi - lo).toNat,?_,fun b hb=>?_,q⟩
 · have e1:lo+((0:Nat):Int) * 1=lo:=by simp
   have e2:(((hi - lo).toNat:Nat):Int) - ((0:Nat):Int)=Builtin.Range.rangeSize lo hi 1:=by rw [rangeSize_one]; split <;> omega
   show IsRangeIter _ _ (lo+((0:Nat):Int) * 1) ((((hi - lo).toNat:Nat):Int) - ((0:Nat):Int)) 1
   rw [e1,e2]
   exact mZ _ rfl
 · have e:b=(s.heap.push { cls:=.type "range",data:=.fields #[.int lo t,.int hi u,.int 1 v] }).objs.size:=by simpa using hb
   subst e
   exact I1.qi (cA _) (I1.bV.fresh (cA _))
noncomputable def Qg (ta:TA):TI:=fun σ H R=>ta σ H fun vs H1=>∃ j:Int,vs=[.int j]∧-(2 ^ 62)≤j∧j < 2 ^ 62∧R (Qf 0 j.toNat) H1
noncomputable def Qh (ta:TA):TI:=fun σ H R=>ta σ H fun vs H1=>∃ i j:Int,vs=[.int i,.int j]∧(-(2 ^ 62)≤i∧i < 2 ^ 62∧-(2 ^ 62)≤j∧j < 2 ^ 62)∧R (Qf i (j - i).toNat) H1
theorem AF {a:Expr} {ta:TA} {p pos:Pos} (hg:Gl X "range") (hm:X.mg "range" = none) (ha:PA X [a] ta) (hs:starEach [a] X.env=[(false,eval a X.env)]:=by rfl):PI X tg (.Call (.Name "range" p) [a] [] pos) (Qg ta):=by
 intro pins s σ H R I h
 refine Call_ (j9 I hg hm boot_range (PL (cb (ha pos pins s σ H _ I h) fun us s1 ⟨vs,H1,I1,r1,q1⟩=>?_) hs rfl))
 obtain ⟨j,e,q1,q2,q⟩:=q1
 subst e
 cases r1 with
 | cons r rr =>
   cases rr
   obtain ⟨t,rfl⟩:=r
   exact call_range_1 (uY I1 (by omega) (by omega) q1 q2 (by simpa using q))
theorem AG {a b:Expr} {ta:TA} {p pos:Pos} (hg:Gl X "range") (hm:X.mg "range" = none) (ha:PA X [a,b] ta) (hs:starEach [a,b] X.env=[(false,eval a X.env),(false,eval b X.env)]:=by rfl) (rn:starEach [b] X.env=[(false,eval b X.env)]:=by rfl) :
  PI X tg (.Call (.Name "range" p) [a,b] [] pos) (Qh ta):=by
 intro pins s σ H R I h
 refine Call_ (j9 I hg hm boot_range (PL (cb (ha pos pins s σ H _ I h) fun us s1 ⟨vs,H1,I1,r1,q1⟩=>?_) (by rw [hs,rn]) (by rw [rn]; rfl)))
 obtain ⟨i,j,e,⟨q1,q2,q3,q4⟩,q⟩:=q1
 subst e
 cases r1 with
 | cons r rr =>
   cases rr with
   | cons r' rr =>
     cases rr
     obtain ⟨t,rfl⟩:=r
     obtain ⟨t',rfl⟩:=r'
     exact call_range_2 (uY I1 q1 q2 q3 q4 q)
noncomputable def WJ (wi:TI) (g:TG) (tb:TS):TS:=fun D σ H=>wi σ H fun J H1=>∃ W:Nat→Nat→St→Hp→Prop,(∃ m,W 0 m σ H1)∧∀ i m σ H,W i m σ H →
 (J.stop i H∧D.nx σ H)∨(J.go i H∧∃ N:St→Hp→Prop,(∀ σ' H',N σ' H'→∃ m',m' < m∧W (i+1) m' σ' H')∧∀ x H',J.Qe i H x H'→g x σ H' fun σ2 H2=>tb { D with nx:=N,ct:=N,bk:=D.nx } σ2 H2)
noncomputable def oz (fp:List Addr) (h:Heap):List (Addr×Obj):=fp.filterMap fun b=>(h.get? b).map fun o=>(b,o)
theorem iz {fp:List Addr} {h:Heap} {b:Addr} {o:Obj} (hb:b∈fp) (e:h.get? b=some o):(b,o)∈oz fp h:=List.mem_filterMap.mpr ⟨b,hb,by rw [e]; rfl⟩
theorem AH {fp:List Addr} {h:Heap} {p:Addr×Obj} (hp:p∈oz fp h):p.1∈fp∧h.get? p.1=some p.2:=by
 obtain ⟨b,hb,e⟩:=List.mem_filterMap.mp hp
 cases q:h.get? b with
 | none=>rw [q] at e; cases e
 | some o =>
   rw [q] at e
   have e':(b,o)=p:=Option.some.inj e
   subst e'
   exact ⟨hb,q⟩
theorem Inv.pinned {pins:List (Addr×Obj)} {σ:St} {H:Hp} {s:Shared} {fp:List Addr} (I:Inv X pins σ H s) (hf:∀ b∈fp,lZ X pins H b) (ho:∀ b∈fp,∃ o,s.heap.get? b=some o∧∀ v,o.data≠.cell v):Inv X (pins ++ oz fp s.heap) σ H s :=
 I.zm fun p hp=>(g_.mp hp).elim (fun z=>I.pin p (jW _ z)) fun z=>by
  obtain ⟨hb,e⟩:=AH z
  obtain ⟨f0,f1,f2,_⟩:=hf p.1 hb
  obtain ⟨o,e',d⟩:=ho p.1 hb
  rw [e] at e'; cases e'
  exact ⟨e,f0,f1,f2,d⟩
theorem Inv.kH {pins pl:List (Addr×Obj)} {σ:St} {H:Hp} {s:Shared} (I:Inv X (pins ++ pl) σ H s):Inv X pins σ H s:=I.zm fun p hp=>I.pin p (jW _ (jR _ hp))
theorem LJ {iter:Expr} {body:List Stmt} {wi:TI} {g:TG} {tb:TS} {pos:Pos} (hp:PassesOwn (model X.prog X.w) X.A X.env X.xe) (hc:X.calm=true) (hi:PI X tg iter wi) (hg:PG X tg g) (hb:nY X body tb)
  (hs:∀ x,foldedSetIterable iter X.env x=pure x:=by intro _; rfl):PS X (.For tg iter body [] pos) (WJ wi g tb):=by
 intro pins s σ H D I h
 refine wpAny_For (cb (hi pins s σ H _ I h) fun v s1 h1=>cb h1 fun Vf s2 h2=>?_) hs
 obtain ⟨it,fp,tn,J,H2,e,I2,T,Cw,f2,W,⟨m0,w0⟩,turn⟩:=h2
 subst e
 have LK:∀ {H':Hp},(∀ b∈fp,H' b=none)→∀ b∈fp,lZ X pins H' b:=fun hn b hb=>⟨hn b hb,(f2 b hb).2⟩
 refine codeAny_forLoop_any (fun n s'=>∃ i σ' H',Inv X pins σ' H' s'∧tn i s'.heap∧(∀ b∈fp,H' b=none)∧W i n σ' H') ?_ m0 ⟨0,σ,H2,I2,Cw,fun b hb=>(f2 b hb).1,w0⟩
 rintro n s3 ⟨i,σ3,H3,I3,Qi,Qj,w3⟩
 rcases turn i n σ3 H3 w3 with ⟨stop,qn⟩ | ⟨go,N,hN,step⟩
 · refine wpAny_passesOwn hp (cb (T.done X rfl rfl rfl hc i pins s3 σ3 H3 X.xe I3 (LK Qj) Qi stop) fun r s4 ⟨hr,I4⟩=>?_)
   subst hr
   exact wpAny_execs_nil ⟨σ3,H3,I4,qn⟩
 · refine wpAny_passesOwn hp (cb (T.item X rfl rfl rfl hc i pins s3 σ3 H3 X.xe I3 (LK Qj) Qi go) fun r s4 ⟨u,hr,h4⟩=>?_)
   subst hr
   refine wpAny_passesOwn hp (cb h4 fun _ s5 ⟨x,H5,I5,r5,y5,LL,WK⟩=>?_)
   have I5':=I5.pinned (LK WK) (T.obj _ _ LL)
   refine wpAny_passesOwn hp (cb (hg _ s5 σ3 H5 x u _ I5' r5 (step x H5 y5)) fun _ s6 ⟨σ6,H6,I6,q6⟩=>?_)
   refine wpAny_passesOwn hp (cb (hb _ s6 σ6 H6 _ I6 q6) fun f s7 q7=>?_)
   have again:∀ {σ7:St} {H7:Hp},Inv X (pins ++ oz fp s5.heap) σ7 H7 s7→N σ7 H7→∃ m,m < n∧∃ i σ' H',Inv X pins σ' H' s7∧tn i s7.heap∧(∀ b∈fp,H' b=none)∧W i m σ' H':=fun {σ7 H7} I7 n7=>by
    obtain ⟨m',hm,w7⟩:=hN σ7 H7 n7
    refine ⟨m',hm,i+1,σ7,H7,I7.kH,T.keep _ _ _ LL fun b hb o e=>(I7.pin (b,o) (jW _ (jW _ (iz hb e)))).1,fun b hb=>?_,w7⟩
    obtain ⟨o,e,d⟩:=T.obj _ _ LL b hb
    exact (I7.pin (b,o) (jW _ (jW _ (iz hb e)))).2.1
   cases f with
   | brk=>obtain ⟨σ7,H7,I7,q7⟩:=q7; exact ⟨σ7,H7,I7.kH,q7⟩
   | ret v=>obtain ⟨x7,σ7,H7,I7,r7,q7⟩:=q7; exact ⟨x7,σ7,H7,I7.kH,r7,q7⟩
   | _=>obtain ⟨σ7,H7,I7,n7⟩:=q7; exact again I7 n7
end
noncomputable abbrev R2:=V→V→Hp→VK→Prop
noncomputable def eY (X:Cx) (f:Value→Value→Sem Value) (r:R2):Prop :=
 ∀ (pins:List (Addr×Obj)) (s:Shared) (σ:St) (H:Hp) (x y:V) (v u:Value) (Q:VK),Inv X pins σ H s→RelV x v→RelV y u→r x y H Q →
  wpAny (model X.prog X.w) X.A (f v u) (EP X pins σ Q) X.xe s
noncomputable def WL (X:Cx) (f:Value→Sem Value) (r:V→Hp→VK→Prop):Prop :=
 ∀ (pins:List (Addr×Obj)) (s:Shared) (σ:St) (H:Hp) (x:V) (v:Value) (Q:VK),Inv X pins σ H s→RelV x v→r x H Q →
  wpAny (model X.prog X.w) X.A (f v) (EP X pins σ Q) X.xe s
noncomputable def c8 (X:Cx) (f:Value) (r:List V→Hp→VK→Prop):Prop :=
 ∀ (pins:List (Addr×Obj)) (s:Shared) (σ:St) (H:Hp) (xs:List V) (us:List Value) (Q:VK),Inv X pins σ H s→Vals xs us→r xs H Q →
  wpAny (model X.prog X.w) X.A (call f us) (EP X pins σ Q) X.xe s
noncomputable def Qk (r:R2) (ta tb:TE):TE:=fun σ H Q=>ta σ H fun x H1=>tb σ H1 fun y H2=>r x y H2 Q
noncomputable def tUn (r:V→Hp→VK→Prop) (ta:TE):TE:=fun σ H Q=>ta σ H fun x H1=>r x H1 Q
noncomputable def rI (C:Int→Int→Prop) (g:Int→Int→V):R2:=fun x y H Q=>∃ i j,x = .int i∧y = .int j∧C i j∧Q (g i j) H
noncomputable def sF (g:Int→Int→V):R2:=fun x y H Q=>∃ i j,x = .int i∧y = .int j∧Q (g i j) H
noncomputable def rU (g:Int→V):V→Hp→VK→Prop:=fun x H Q=>∃ i,x = .int i∧Q (g i) H
section
variable {X:Cx} {a b c:Expr} {ta tb tc:TE} {pos:Pos}
theorem LM (ha:PE X a ta) (hb:PE X b tb) {pins:List (Addr×Obj)} {s:Shared} {σ:St} {H:Hp} {R:V→V→Hp→Prop} (I:Inv X pins σ H s)
  (h:ta σ H fun x H1=>tb σ H1 fun y H2=>R x y H2) {Q:Value→Shared→Prop} {f:Value→Value→Sem Value}
  (hf:∀ v u s2 x y H2,Inv X pins σ H2 s2→RelV x v→RelV y u→R x y H2→wpAny (model X.prog X.w) X.A (f v u) Q X.xe s2) :
  wpAny (model X.prog X.w) X.A (eval a X.env) (fun v s₁=>wpAny (model X.prog X.w) X.A (eval b X.env) (fun u s₂=>wpAny (model X.prog X.w) X.A (f v u) Q X.xe s₂) X.xe s₁) X.xe s:=by
 refine cb (ha pins s σ H _ I h) fun v s1 ⟨x,H1,I1,r1,q1⟩=>?_
 refine cb (hb pins s1 σ H1 _ I1 q1) fun u s2 ⟨y,H2,I2,r2,q2⟩=>?_
 exact hf v u s2 x y H2 I2 r1 r2 q2
theorem Kj {op:Operator} {r:R2} (ho:eY X (binaryOp op) r) (ha:PE X a ta) (hb:PE X b tb):PE X (.BinOp a op b pos) (Qk r ta tb):=by
 intro pins s σ H Q I h
 exact wpAny_BinOp (LM ha hb I h fun v u s2 x y H2 I2 rx ry q=>ho pins s2 σ H2 x y v u Q I2 rx ry q)
theorem Ql {op:UnaryOp} {r:V→Hp→VK→Prop} (ho:WL X (unaryOp op) r) (ha:PE X a ta):PE X (.UnaryOp op a pos) (tUn r ta):=by
 intro pins s σ H Q I h
 exact UnaryOp_ (cb (ha pins s σ H _ I h) fun v s1 ⟨x,H1,I1,r1,q1⟩=>ho pins s1 σ H1 x v Q I1 r1 q1)
theorem O8 {f:Value→Value→Sem Value} {C:Int→Int→Prop} {g:Int→Int→Int}
  (rule:∀ (i j:Int) (t u:Tok) (s:Shared) (Q:Value→Shared→Prop) (E:Value→Shared→Prop),C i j→Q (.int (g i j) s.toks) { s with toks:=s.toks+1 }→wpAny (model X.prog X.w) X.A (f (.int i t) (.int j u)) Q E s) :
  eY X f (rI C fun i j=>.int (g i j)):=by
 intro pins s σ H x y v u Q I rx ry h
 obtain ⟨i,j,rfl,rfl,hc,q⟩:=h
 obtain ⟨t,rfl⟩:=rx
 obtain ⟨t',rfl⟩:=ry
 exact rule i j t t' s _ _ hc ⟨.int (g i j),H,I.tok _,⟨_,rfl⟩,q⟩
theorem LN {f:Value→Value→Sem Value} {g:Int→Int→Int}
  (rule:∀ (i j:Int) (t u:Tok) (s:Shared) (Q:Value→Shared→Prop) (E:Value→Shared→Prop),Q (.int (g i j) s.toks) { s with toks:=s.toks+1 }→wpAny (model X.prog X.w) X.A (f (.int i t) (.int j u)) Q E s) :
  eY X f (sF fun i j=>.int (g i j)):=by
 intro pins s σ H x y v u Q I rx ry h
 obtain ⟨i,j,rfl,rfl,q⟩:=h
 obtain ⟨t,rfl⟩:=rx
 obtain ⟨t',rfl⟩:=ry
 exact rule i j t t' s _ _ ⟨.int (g i j),H,I.tok _,⟨_,rfl⟩,q⟩
theorem LO {f:Value→Value→Sem Value} {g:Int→Int→Bool}
  (rule:∀ (i j:Int) (t u:Tok) (s:Shared) (Q:Value→Shared→Prop) (E:Value→Shared→Prop),Q (.bool (g i j)) s→wpAny (model X.prog X.w) X.A (f (.int i t) (.int j u)) Q E s) :
  eY X f (sF fun i j=>.bl (g i j)):=by
 intro pins s σ H x y v u Q I rx ry h
 obtain ⟨i,j,rfl,rfl,q⟩:=h
 obtain ⟨t,rfl⟩:=rx
 obtain ⟨t',rfl⟩:=ry
 exact rule i j t t' s _ _ ⟨.bl (g i j),H,I,rfl,q⟩
noncomputable def Qm (i j:Int):Prop:=0 < j∧j < 1073741824
noncomputable def Hf (i j:Int):Prop:=0≤j∧j≤1000000∧i.natAbs < 2 ^ 64
noncomputable def CY (i j:Int):Prop:=(-(2 ^ 64) < i∧i < 2 ^ 64)∨(-(2 ^ 64) < j∧j < 2 ^ 64)
theorem CY.ok {i j:Int} (h:CY i j):IntMulOk i j:=by
 rcases h with ⟨h1,h2⟩ | ⟨h1,h2⟩
 · exact .of_left (intBits_le_64 h1 h2)
 · exact .of_right (intBits_le_64 h1 h2)
theorem xR (k:Nat):(0:Int)≤2 ^ k:=by
 rw [two_pow_cast]
 exact Int.natCast_nonneg _
theorem LP:eY X (binaryOp .Add) (sF fun i j=>.int (i+j)):=LN fun _ _ _ _ _ _ _ q=>add_int q
theorem LQ:eY X (binaryOp .Sub) (sF fun i j=>.int (i - j)):=LN fun _ _ _ _ _ _ _ q=>sub_int q
theorem LR:eY X (binaryOp .Mult) (rI CY fun i j=>.int (i * j)):=O8 fun _ _ _ _ _ _ _ hc q=>mul_int q hc.ok
theorem Hg:eY X (binaryOp .FloorDiv) (rI Qm fun i j=>.int (i / j)):=O8 fun i j _ _ _ _ _ hc q=>by
 have h1:(0:Int) < j:=hc.1
 have h2:j < 1073741824:=hc.2
 exact floordiv_int (by omega) (by rw [Int.fdiv_eq_ediv_of_nonneg i (by omega)]; exact q) (.inl (PyProof.noPylong_small (by omega)))
theorem LS:eY X (binaryOp .Mod) (rI (fun _ j=>0 < j) fun i j=>.int (i % j)):=O8 fun i j _ _ _ _ _ hc q=>by
 have h1:(0:Int) < j:=hc
 exact mod_int' (by omega) (by rw [Int.fmod_eq_emod_of_nonneg i (by omega)]; exact q)
theorem LU:eY X (binaryOp .Pow) (rI Hf fun i j=>.int (i ^ j.toNat)):=O8 fun _ _ _ _ _ _ _ hc q=>pow_int_small hc.1 hc.2.1 hc.2.2 q
theorem LV:eY X (binaryOp .LShift) (rI Hf fun i j=>.int (i * 2 ^ j.toNat)):=O8 fun _ _ _ _ _ _ _ hc q=>lshift_int_small hc.1 hc.2.1 hc.2.2 q
theorem LW:eY X (binaryOp .RShift) (rI (fun _ j=>0≤j) fun i j=>.int (i / 2 ^ j.toNat)):=O8 fun i j _ _ _ _ _ hc q =>
 rshift_int hc (by rw [Int.fdiv_eq_ediv_of_nonneg i (xR _)]; exact q)
theorem LX:eY X (binaryOp .BitAnd) (sF fun i j=>.int (Builtin.bitAnd i j)):=LN fun _ _ _ _ _ _ _ q=>and_int q
theorem unI {f:Value→Sem Value} {g:Int→Int}
  (rule:∀ (i:Int) (t:Tok) (s:Shared) (Q:Value→Shared→Prop) (E:Value→Shared→Prop),Q (.int (g i) s.toks) { s with toks:=s.toks+1 }→wpAny (model X.prog X.w) X.A (f (.int i t)) Q E s) :
  WL X f (rU fun i=>.int (g i)):=by
 intro pins s σ H x v Q I rx h
 obtain ⟨i,rfl,q⟩:=h
 obtain ⟨t,rfl⟩:=rx
 exact rule i t s _ _ ⟨.int (g i),H,I.tok _,⟨_,rfl⟩,q⟩
theorem LY:WL X (unaryOp .USub) (rU fun i=>.int (-i)):=unI fun _ _ _ _ _ q=>neg_int q
end
noncomputable def WM:V→V→Bool
 | .bb,.bb=>true | .bb,.int _=>true | .int _,.bb=>true | .bb,.bl _=>true | .bl _,.bb=>true | .bb,.str _=>true | .str _,.bb=>true
 | .int _,.int _=>true | .bl _,.bl _=>true | .str _,.str _=>true | .G4 _,.G4 _=>true
 | .int _,.str _=>true | .str _,.int _=>true | .bl _,.str _=>true | .str _,.bl _=>true
 | _,_=>false
noncomputable def rNe:R2:=fun x y H Q=>WM x y=true∧Q (.bl (!decide (x=y))) H
theorem Hh {i j:Int}:decide (V.int i=V.int j)=(i == j):=by
 rw [G1]
 simp
theorem LZ {i j:Bool}:decide (V.bl i=V.bl j)=(i == j):=by
 rw [G1]
 simp
theorem Hi {i j:Str}:decide (V.str i=V.str j)=(i == j):=by
 rw [G1]
 simp
theorem Hj {i j:Array UInt8}:decide (V.G4 i=V.G4 j)=(i.toList == j.toList):=by
 rw [G1]
 cases i
 cases j
 simp
section
variable {X:Cx} {a b c:Expr} {ta tb tc:TE} {pos:Pos}
theorem cD {pins:List (Addr×Obj)} {σ:St} {H:Hp} {s:Shared} {Q:VK} {k k':Bool} (I:Inv X pins σ H s) (q:Q (.bl k) H) (e:k=k'):EP X pins σ Q (.bool k') s:=by
 subst e
 exact ⟨.bl k,H,I,rfl,q⟩
theorem zu:eY X (compareOp .NotEq) rNe:=by
 intro pins s σ H x y v u Q I rx ry h
 obtain ⟨hs,q⟩:=h
 cases x with
 | bb =>
   cases rx
   cases y with
   | bb=>cases ry; exact PySem.EqNone.ne_none_none (cD I q (by simp))
   | bl j=>cases ry; exact PySem.EqNone.ne_none_bool (cD I q (by simp))
   | int j=>obtain ⟨t',rfl⟩:=ry; exact PySem.EqNone.ne_none_int (cD I q (by simp))
   | str j=>obtain ⟨t',rfl⟩:=ry; exact PySem.EqNone.ne_none_str (cD I q (by simp))
   | _=>exact absurd (show false=true from hs) c7
 | bl i =>
   cases rx
   cases y with
   | bb=>cases ry; exact PySem.EqNone.ne_bool_none (cD I q (by simp))
   | bl j=>cases ry; exact ne_bool (cD I q (congrArg not LZ))
   | str j=>obtain ⟨t',rfl⟩:=ry; exact PySem.EqMixed.ne_bool_str (cD I q (by simp))
   | _=>exact absurd (show false=true from hs) c7
 | int i =>
   obtain ⟨t,rfl⟩:=rx
   cases y with
   | bb=>cases ry; exact PySem.EqNone.ne_int_none (cD I q (by simp))
   | int j=>obtain ⟨t',rfl⟩:=ry; exact ne_int (cD I q (congrArg not Hh))
   | str j=>obtain ⟨t',rfl⟩:=ry; exact PySem.EqMixed.ne_int_str (cD I q (by simp))
   | _=>exact absurd (show false=true from hs) c7
 | str i =>
   obtain ⟨t,rfl⟩:=rx
   cases y with
   | bb=>cases ry; exact PySem.EqNone.ne_str_none (cD I q (by simp))
   | bl j=>cases ry; exact PySem.EqMixed.ne_str_bool (cD I q (by simp))
   | int j=>obtain ⟨t',rfl⟩:=ry; exact PySem.EqMixed.ne_str_int (cD I q (by simp))
   | str j=>obtain ⟨t',rfl⟩:=ry; exact ne_str (cD I q (congrArg not Hi))
   | _=>exact absurd (show false=true from hs) c7
 | G4 i =>
   obtain ⟨t,rfl⟩:=rx
   cases y with
   | G4 j=>obtain ⟨t',rfl⟩:=ry; exact PySem.W.ne_bytes (cD I q (congrArg not Hj))
   | _=>exact absurd (show false=true from hs) c7
 | _=>cases y <;> exact absurd (show false=true from hs) c7
theorem Kk:eY X (compareOp .Lt) (sF fun i j=>.bl (decide (i < j))):=LO fun _ _ _ _ _ _ _ q=>lt_int q
theorem CZ:eY X (compareOp .LtE) (sF fun i j=>.bl (decide (i≤j))):=LO fun _ _ _ _ _ _ _ q=>le_int q
theorem Qn:eY X (compareOp .Gt) (sF fun i j=>.bl (decide (j < i))):=LO fun _ _ _ _ _ _ _ q=>gt_int q
theorem AI:eY X (compareOp .In) (fun x y H Q=>∃ i j,x = .str i∧y = .str j∧Q (.bl (!(Builtin.Str.occurrences j i 0 j.length 1).isEmpty)) H):=by
 intro pins s σ H x y v u Q I rx ry h
 obtain ⟨i,j,rfl,rfl,q⟩:=h
 obtain ⟨t,rfl⟩:=rx
 obtain ⟨t',rfl⟩:=ry
 exact in_str (cD I q rfl)
theorem L0:eY X (compareOp .Is) (fun x y H Q=>y = .bb∧Q (.bl (decide (x = .bb))) H):=by
 intro pins s σ H x y v u Q I rx ry h
 obtain ⟨rfl,q⟩:=h
 cases ry
 refine is_none_gen (cD I q ?_)
 cases x <;> first
  | (cases rx; rfl)
  | (obtain ⟨t,rfl⟩:=rx; rfl)
theorem eY.or {f:Value→Value→Sem Value} {r r':R2} (h:eY X f r) (h':eY X f r'):eY X f (fun x y H Q=>r x y H Q∨r' x y H Q):=by
 intro pins s σ H x y v u Q I rx ry q
 rcases q with q | q
 · exact h pins s σ H x y v u Q I rx ry q
 · exact h' pins s σ H x y v u Q I rx ry q
theorem j_ (b:Expr) {op:CmpOp} (h:op≠.In:=by decide) (h2:op≠.NotIn:=by decide):behindInMarks op b=false:=by
 have e1:(op == CmpOp.In)=false:=by cases op <;> first | rfl | exact absurd rfl h
 have e2:(op == CmpOp.NotIn)=false:=by cases op <;> first | rfl | exact absurd rfl h2
 cases b <;> simp [behindInMarks,e1,e2]
theorem Hk {op:CmpOp} {r:R2} (ho:eY X (compareOp op) r) (ha:PE X a ta) (hb:PE X b tb) (hm:behindInMarks op b=false):PE X (.Compare a [op] [b] pos) (Qk r ta tb):=by
 intro pins s σ H Q I h
 exact wpAny_Compare1 (LM ha hb I h fun v u s2 x y H2 I2 rx ry q=>ho pins s2 σ H2 x y v u Q I2 rx ry q) hm
noncomputable def Kl (t:TE):TT:=fun σ H Q=>t σ H fun x H'=>∃ k,x = .bl k∧Q k H'
theorem Hl {op:CmpOp} {r:R2} (ho:eY X (compareOp op) r) (ha:PE X a ta) (hb:PE X b tb) (hm:behindInMarks op b=false):PT X (.Compare a [op] [b] pos) (Kl (Qk r ta tb)):=by
 intro pins s σ H Q I h
 refine wpAny_isTrue_Compare1 (cb (ha pins s σ H _ I h) fun v s1 ⟨x,H1,I1,r1,q1⟩=>cb (hb pins s1 σ H1 _ I1 q1) fun u s2 ⟨y,H2,I2,r2,q2⟩ =>
  cb (ho pins s2 σ H2 x y v u _ I2 r1 r2 q2) fun c s3 ⟨z,H3,I3,r3,k,e,q3⟩=>?_) hm
 subst e
 cases r3
 exact wpAny_truthy_bool ⟨H3,I3,q3⟩
noncomputable def xS (r r':R2) (ta tb tc:TE):TE:=fun σ H Q=>ta σ H fun x H1=>tb σ H1 fun y H2=>r x y H2 fun z H3=>∃ k,z = .bl k ∧
 (if k=true then tc σ H3 fun w' H4=>r' y w' H4 Q else Q (.bl false) H3)
theorem C0 {op xT:CmpOp} {r r':R2} (ho:eY X (compareOp op) r) (gx:eY X (compareOp xT) r') (ha:PE X a ta) (hb:PE X b tb) (hc:PE X c tc)
  (hm:lastMarks [op,xT] [b,c]=false:=by with_unfolding_all rfl):PE X (.Compare a [op,xT] [b,c] pos) (xS r r' ta tb tc):=by
 intro pins s σ H Q I h
 refine Compare_chain (cb (ha pins s σ H _ I h) fun v s1 ⟨x,H1,I1,r1,q1⟩=>chain_link (cb (hb pins s1 σ H1 _ I1 q1) fun u s2 ⟨y,H2,I2,r2,q2⟩ =>
  cb (ho pins s2 σ H2 x y v u _ I2 r1 r2 q2) fun d s3 ⟨z,H3,I3,r3,k,e,q3⟩=>?_)) hm
 subst e
 cases r3
 refine wpAny_truthy_bool ?_
 cases k with
 | false=>exact ite_ff ⟨.bl false,H3,I3,rfl,q3⟩
 | true=>exact ite_tt (chain_last (cb (hc pins s3 σ H3 _ I3 q3) fun w' s4 ⟨z',H4,I4,r4,q4⟩=>gx pins s4 σ H4 y z' u w' Q I4 r2 r4 q4))
theorem C1 {op xT:CmpOp} {r r':R2} (ho:eY X (compareOp op) r) (gx:eY X (compareOp xT) r') (ha:PE X a ta) (hb:PE X b tb) (hc:PE X c tc)
  (hm:lastMarks [op,xT] [b,c]=false:=by with_unfolding_all rfl):PT X (.Compare a [op,xT] [b,c] pos) (Kl (xS r r' ta tb tc)):=by
 intro pins s σ H Q I h
 refine isTrue_chain (cb (ha pins s σ H _ I h) fun v s1 ⟨x,H1,I1,r1,q1⟩=>test_link (cb (hb pins s1 σ H1 _ I1 q1) fun u s2 ⟨y,H2,I2,r2,q2⟩ =>
  cb (ho pins s2 σ H2 x y v u _ I2 r1 r2 q2) fun d s3 ⟨z,H3,I3,r3,k,e,q3⟩=>?_)) hm
 subst e
 cases r3
 refine wpAny_truthy_bool ?_
 cases k with
 | false =>
   obtain ⟨k',e',q'⟩:=q3
   cases e'
   exact ite_ff ⟨H3,I3,q'⟩
 | true =>
   refine ite_tt (test_last (cb (hc pins s3 σ H3 _ I3 q3) fun w' s4 ⟨z',H4,I4,r4,q4⟩=>cb (gx pins s4 σ H4 y z' u w' _ I4 r2 r4 q4) fun d' s5 ⟨z2,H5,I5,r5,k2,e2,q5⟩=>?_))
   subst e2
   cases r5
   exact wpAny_truthy_bool ⟨H5,I5,q5⟩
theorem l0:(sizeLine:Nat) < 2 ^ 63:=by rw [sizeLine_eq]; decide
theorem xU:eY X (binaryOp .Add) (fun x y H Q=>∃ i j,x = .str i∧y = .str j∧i.length+j.length≤sizeLine∧Q (.str (i ++ j)) H):=by
 intro pins s σ H x y v u Q I rx ry h
 obtain ⟨i,j,rfl,rfl,hz,q⟩:=h
 obtain ⟨t,rfl⟩:=rx
 obtain ⟨t',rfl⟩:=ry
 exact add_str (fun t' tk=>⟨.str (i ++ j),H,I.tok _,⟨_,rfl⟩,q⟩) hz
theorem vals1 {x:V} {us:List Value} (r:Vals [x] us):∃ u,us=[u]∧RelV x u:=by
 cases r with
 | cons r1 r2=>cases r2; exact ⟨_,rfl,r1⟩
theorem vals2 {x y:V} {us:List Value} (r:Vals [x,y] us):∃ u w',us=[u,w']∧RelV x u∧RelV y w':=by
 cases r with
 | cons r1 r2 =>
   cases r2 with
   | cons r3 r4=>cases r4; exact ⟨_,_,rfl,r1,r3⟩
end
structure AJ (h:Heap) (x dx C:Addr) (mA:Str→Option Value):Prop where
 obj:h.get? x=some (PySem.W.instObj C dx)
 ns:h.Ns1 dx mA
 ne:dx≠x
theorem AK {h:Heap} {dx:Addr} {mA:Str→Option Value} (n:h.Ns1 dx mA):∃ od,h.get? dx=some od∧∀ name,PySem.W.lookIn name od=some (mA name):=by
 obtain ⟨o,es,ep,ho,hd,hk,_,hm⟩:=n
 refine ⟨o,ho,fun name=>?_⟩
 have e:=hm name
 unfold nsFind findBy at e
 rw [← Array.find?_toList] at e
 unfold PySem.W.lookIn
 rw [hd]
 dsimp only
 split
 · rename_i y q
   rw [q] at e
   exact congrArg some e
 · rename_i q
   rw [q] at e
   have a:es.toList.any (·.refKey)=false:=by
    rw [List.any_eq_false]
    intro y hy
    obtain ⟨z,t,WN⟩:=hk y (Array.mem_toList_iff.mp hy)
    simp [DictEntry.refKey,WN]
   have a':¬ es.toList.any (·.refKey)=true:=by rw [a]; exact c7
   rw [if_neg a']
   exact congrArg some e
theorem AJ.look {h:Heap} {x dx C:Addr} {mA:Str→Option Value} (I:AJ h x dx C mA):∃ od,PySem.W.InstAt h x (PySem.W.instObj C dx) C (some od)∧∀ name,PySem.W.lookIn name od=some (mA name) :=
 let ⟨od,ho,hl⟩:=AK I.ns
 ⟨od,⟨I.obj,rfl,rfl,ho⟩,hl⟩
section
variable {prog:Program} {w:World} {A:Around} {E:Value→Shared→Prop} {s:Shared} {K:PySem.W.Frag} {x dx C f:Addr} {mA:Str→Option Value} {name:Str} {v:Value}
theorem get_map {expr:Bool} {Q:Value→Shared→Prop} (X:K.In s.heap) (I:AJ s.heap x dx C mA) (hg:PySem.W.plainGet K C name=true) (hh:PySem.W.hasDictIn K C=true)
  (ha:PySem.W.findIn K (.ref C) name=some none) (hv:mA name=some v) (uZ:PySem.W.handedIn v=true) (h:Q v { s with toks:=s.toks+1 }) :
  wpAny (model prog w) A (getAttr (.ref x) name expr) Q E s:=by
 obtain ⟨od,J,hl⟩:=I.look
 exact PySem.W.get_value X J (PySem.W.plainGet_of hg).1 (PySem.W.findObj_own hh ha rfl (by rw [hl,hv])) uZ h
theorem Hm {ns:List Str} {Q:Unit→Shared→Prop} (X:K.In s.heap) (I:AJ s.heap x dx C mA)
  (hs:PySem.W.findIn K (.ref C) "__setattr__" = some (some (.builtin "object.__setattr__"))) (hp:PySem.W.plainOver K C=true) (ht:PySem.W.takerIn K C name=some none) (hh:PySem.W.hasDictIn K C=true)
  (hw:PySem.Within mA ns) (zv:ns.length≤sizeLine)
  (h:∀ h',AJ h' x dx C (fun y=>if y=name then some v else mA y)→Heap.SameBut dx s.heap h'→Q () { s with heap:=h',toks:=s.toks+2 }) :
  wpAny (model prog w) A (setAttr (.ref x) name v) Q E s:=by
 obtain ⟨od,J,hl⟩:=I.look
 refine PySem.W.set_plain X J hs (PySem.W.osa_open (s:={ s with toks:=s.toks+1 }) (r:=none) X J hp ht fun b=>?_)
 obtain ⟨cd,hc,AD⟩:=PySem.W.any_some hh
 have hx:s.heap.get? x=some ⟨.ref C,some dx,.plain,#[]⟩:=I.obj
 refine wpAny_bind (wpAny_pure (wpAny_bind (wpAny_bind (wpAny_loadPart hx (wpAny_bind (PySem.W.Looks.here (s:={ s with toks:=s.toks+1 }) (PySem.W.looks_clsIn X hc) ?_))))))
 rw [AD]
 refine wpAny_pure (a:=some dx) (wpAny_bind (wpAny_pure (wpAny_bind ?_)))
 refine wpAny_nsSet1 (s:={ s with toks:=s.toks+1 }) I.ns fun h' ZQ rn=>?_
 obtain ⟨oD,esD,epD,hoD,hdD,hcD⟩:=ZQ.count (PySem.Within.cons name v hw)
 refine wpAny_bind (wpAny_lookBehind hoD (by rw [hdD]; exact pastItsLine_dict (nI hcD (by rw [Ax]; omega))) ?_)
 exact wpAny_pure (h _ ⟨(rn.2 _ (Ne.symm I.ne)).trans I.obj,ZQ,I.ne⟩ rn)
theorem C2 {R:Result→Shared→Prop} {vs:List Value} {kw:List (Str×Value)} (X:K.In s.heap) (hm:PySem.W.makesIn K C=true)
  (hi:PySem.W.findIn K (.ref C) "__init__" = some (some (.ref f))) (hf:PySem.W.typeIn K (.ref f)=some (.type "function"))
  (h:codeAny (model prog w) (A.under (.builtin "type.__call__" ⟨.ref C :: vs,kw⟩)) (.call (.ref f) ⟨.ref (s.heap.objs.size+1) :: vs,kw⟩) (PySem.W.InitBack (s.heap.objs.size+1) R)
    { s with heap:=(s.heap.push PySem.W.emptyDict).push (PySem.W.instObj C s.heap.objs.size) }) :
  codeAny (model prog w) A (.call (.ref C) ⟨vs,kw⟩) R s:=by
 obtain ⟨hh,g,d,t,os⟩:=s
 exact PySem.W.make_core (PySem.W.makes_of X hm) (PySem.W.looks_findIn X hi) (fun self=>PySem.W.bind_fn X self hf) (.inl rfl) h
end
noncomputable def ja (f:Str) (v:V):List (Str×V)→List (Str×V)
 | []=>[(f,v)]
 | (g,x) :: r=>if g=f then (g,v) :: r else (g,x) :: ja f v r
theorem m3 (f g:Str) (v:V):∀ fs:List (Str×V),(ja f v fs).lookup g=if g=f then some v else fs.lookup g
 | []=>by
   show List.lookup g [(f,v)]=_
   by_cases h:g=f
   · have hb:(g == f)=true:=beq_iff_eq.mpr h
     simp only [List.lookup,hb,if_pos h]
   · have hb:(g == f)=false:=beq_eq_false_iff_ne.mpr h
     simp only [List.lookup,hb,if_neg h]
 | (k,x) :: r=>by
   have ih:=m3 f g v r
   rw [show ja f v ((k,x) :: r)=(if k=f then (k,v) :: r else (k,x) :: ja f v r) from rfl]
   by_cases hk:k=f
   · rw [if_pos hk]
     by_cases h:g=k
     · have hb:(g == k)=true:=beq_iff_eq.mpr h
       simp only [List.lookup,hb,if_pos (h.trans hk)]
     · have hb:(g == k)=false:=beq_eq_false_iff_ne.mpr h
       simp only [List.lookup,hb,if_neg (fun e:g=f=>h (e.trans hk.symm))]
   · rw [if_neg hk]
     by_cases h:g=k
     · have hb:(g == k)=true:=beq_iff_eq.mpr h
       simp only [List.lookup,hb,if_neg (fun e:g=f=>hk (h.symm.trans e))]
     · have hb:(g == k)=false:=beq_eq_false_iff_ne.mpr h
       simp only [List.lookup,hb]
       exact ih
theorem l6 (f:Str) (v:V):∀ fs:List (Str×V),f∈(ja f v fs).map (·.1)∧∀ g,g∈fs.map (·.1)→g∈(ja f v fs).map (·.1)
 | []=>⟨by simp [ja],fun g h=>by simp at h⟩
 | (k,x) :: r=>by
   obtain ⟨i1,i2⟩:=l6 f v r
   rw [show ja f v ((k,x) :: r)=(if k=f then (k,v) :: r else (k,x) :: ja f v r) from rfl]
   by_cases hk:k=f
   · rw [if_pos hk]
     subst hk
     exact ⟨by simp,fun g h=>by simpa using h⟩
   · rw [if_neg hk]
     refine ⟨?_,fun g h=>?_⟩
     · rw [g9]
       exact jc _ i1
     · rw [g9] at h ⊢
       rcases cZ.mp h with e | e
       · exact cZ.mpr (.inl e)
       · exact jc _ (i2 g e)
theorem m4 (f:Str) (v:V):∀ fs:List (Str×V),(ja f v fs).length≤fs.length+1
 | []=>by simp [ja]
 | (k,x) :: r=>by
   have ih:=m4 f v r
   rw [show ja f v ((k,x) :: r)=(if k=f then (k,v) :: r else (k,x) :: ja f v r) from rfl]
   by_cases hk:k=f
   · rw [if_pos hk,Ax,Ax]; omega
   · rw [if_neg hk,Ax,Ax]; omega
theorem lV.some_of {v:V} {o:Option Value} (r:lV (some v) o):∃ u,o=some u∧RelV v u:=by
 cases o with
 | none=>exact (show False from r).elim
 | some u=>exact ⟨u,rfl,r⟩
theorem AL {v:V} {u:Value} (r:RelV v u):PySem.W.handedIn u=true:=by
 cases v with
 | bb=>cases (show u=Value.none from r); rfl
 | bl b=>cases (show u=Value.bool b from r); rfl
 | int i=>obtain ⟨t,e⟩:=(show ∃ t,u=Value.int i t from r); cases e; rfl
 | str x=>obtain ⟨t,e⟩:=(show ∃ t,u=Value.str x t from r); cases e; rfl
 | G4 b=>obtain ⟨t,e⟩:=(show ∃ t,u=Value.bytes b t from r); cases e; rfl
 | kD b=>obtain ⟨t,e⟩:=(show ∃ t,u=Value.float b t from r); cases e; rfl
 | ref a=>cases (show u=Value.ref a from r); rfl
 | ty n=>cases (show u=Value.type n from r); rfl
section
variable {P:Program} {w:World} {H H':Hp} {h h':Heap} {a C dx:Addr} {fs Wl:List (Str×V)}
theorem zw (bV:kE P w H h) (e:H a=some (.ins C dx fs)):∃ mA,AJ h a dx C mA∧(∀ f,lV (fs.lookup f) (mA f))∧PySem.Within mA (fs.map (·.1))∧fs.length≤1000∧H dx=some (.own a):=by
 obtain ⟨d,z,ne,ob,mA,n,r,q⟩:=(show bX P w H h a (.ins C dx fs) from bV a _ e)
 exact ⟨mA,⟨ob,n,ne⟩,r,q,z,d⟩
end
structure Hn (K:PySem.W.Frag) (C:Addr):Prop where
 pg:PySem.W.plainGet K C Str.empty=true
 hd:PySem.W.hasDictIn K C=true
 po:PySem.W.plainOver K C=true
 sa:PySem.W.findIn K (.ref C) "__setattr__" = some (some (.builtin "object.__setattr__"))
theorem Hn.get {K:PySem.W.Frag} {C:Addr} (c:Hn K C) (f:Str):PySem.W.plainGet K C f=true:=c.pg
noncomputable def dq (K:PySem.W.Frag) (C:Addr) (f:Str):Prop:=PySem.W.findIn K (.ref C) f=some none
theorem dq.Qo {K:PySem.W.Frag} {C:Addr} {f:Str} (n:dq K C f):PySem.W.takerIn K C f=some none:=by
 unfold PySem.W.takerIn
 rw [show PySem.W.findIn K (.ref C) f=some none from n]
 rfl
section
variable {X:Cx} {pins:List (Addr×Obj)} {σ:St} {H:Hp} {s:Shared} {a C dx:Addr} {fs:List (Str×V)} {f:Str} {v:V} {A:Around} {E:Value→Shared→Prop}
theorem xV {b:Bool} {Q:Value→Shared→Prop} (I:Inv X pins σ H s) (e:H a=some (.ins C dx fs)) (c:Hn X.K C) (n:dq X.K C f) (l:fs.lookup f=some v)
  (h:∀ u s',Inv X pins σ H s'→RelV v u→Q u s'):wpAny (model X.prog X.w) A (getAttr (.ref a) f b) Q E s:=by
 obtain ⟨mA,O,r,_,_,_⟩:=zw I.bV e
 obtain ⟨u,hu,ru⟩:=lV.some_of (v:=v) (o:=mA f) (by rw [← l]; exact r f)
 exact get_map I.rj O (c.get f) c.hd n hu (AL ru) (h u _ (I.tok _) ru)
theorem xW {y:V} {u:Value} {Q:Unit→Shared→Prop} (I:Inv X pins σ H s) (e:H a=some (.ins C dx fs)) (c:Hn X.K C) (n:dq X.K C f) (hl:fs.length < 1000) (ry:RelV y u)
  (h:∀ s',Inv X pins σ (upd H a (.ins C dx (ja f y fs))) s'→Q () s'):wpAny (model X.prog X.w) A (setAttr (.ref a) f u) Q E s:=by
 obtain ⟨mA,O,r,wi,_,ho⟩:=zw I.bV e
 have hz:(fs.map (·.1)).length≤sizeLine:=by rw [b_,sizeLine_eq]; omega
 refine Hm I.rj O c.sa c.po n.Qo c.hd wi hz fun h' O' sb=>h _ ?_
 have hd:∃ o,h'.get? dx=some o:=let ⟨o,_,_,e',_⟩:=O'.ns; ⟨o,e'⟩
 refine I.write (x:=a) (e:=dx) (by rw [e]; exact True.intro) (.inr ho) (fun b q hb z=>(sb.2 b hb).trans z) hd ?_
 refine ⟨by rw [aW O.ne]; exact ho,?_,O.ne,O'.obj,_,O'.ns,fun g=>?_,fun g hg=>?_⟩
 · have:=m4 f y fs; omega
 · show lV ((ja f y fs).lookup g) (if g=f then some u else mA g)
   rw [m3]
   by_cases q:g=f
   · rw [if_pos q,if_pos q]; exact ry
   · rw [if_neg q,if_neg q]; exact r g
 · by_cases q:g=f
   · rw [q]; exact (l6 f y fs).1
   · refine (l6 f y fs).2 g (wi g fun z=>hg ?_)
     show (if g=f then some u else mA g)=none
     rw [if_neg q]; exact z
theorem Inv.made (I:Inv X pins σ H s):Inv X pins σ (upd (upd H s.heap.objs.size (.own (s.heap.objs.size+1))) (s.heap.objs.size+1) (.ins C s.heap.objs.size []))
  { s with heap:=(s.heap.push PySem.W.emptyDict).push (PySem.W.instObj C s.heap.objs.size) }:=by
 have e1:(s.heap.push PySem.W.emptyDict).get? s.heap.objs.size=some PySem.W.emptyDict:=mZ s.heap rfl
 have e2:((s.heap.push PySem.W.emptyDict).push (PySem.W.instObj C s.heap.objs.size)).get? (s.heap.objs.size+1)=some (PySem.W.instObj C s.heap.objs.size):=by
  have:=mZ (s.heap.push PySem.W.emptyDict) (o:=PySem.W.instObj C s.heap.objs.size) rfl
  rwa [xy] at this
 have e3:(s.heap.push PySem.W.emptyDict).Ns s.heap.objs.size (fun _=>none):=⟨PySem.W.emptyDict,#[],_,e1,rfl,(fun e he=>absurd he (by simp)),fun _=>rfl⟩
 have I1:=I.laid (a:=s.heap.objs.size) (o:=.own (s.heap.objs.size+1)) (h':=s.heap.push PySem.W.emptyDict) (t':=s.toks) (fun b u q=>fF _ q) (cA _) ⟨_,e1⟩
 refine I1.laid (a:=s.heap.objs.size+1) (o:=.ins C s.heap.objs.size []) (t':=s.toks) (fun b u q=>fF _ q) (Nat.le_of_eq (xy _ _)) ?_
 have ne:s.heap.objs.size≠s.heap.objs.size+1:=je (xv _)
 refine ⟨by rw [aW ne,a_],qe _,ne,e2,fun _=>none,(Heap.Ns1.of_empty e3).at fun o q=>fF _ q,fun _=>True.intro,fun y hy=>absurd rfl hy⟩
theorem Ho {prog:Program} {w:World} {env:Env} {e:Expr} {f:Str} {pos:Pos} {s:Shared} {Q:Value→Shared→Prop} (hb:attributeBase e f env (eval e env)=eval e env)
  (h:wpAny (model prog w) A (eval e env) (fun o s₁=>wpAny (model prog w) A (getAttr o f true) Q E s₁) E s):wpAny (model prog w) A (eval (.Attribute e f pos) env) Q E s :=
 Attribute_any_ h (by rw [arm_eval_Attribute,hb])
end
noncomputable def WO (K:PySem.W.Frag) (ta:TE) (f:Str):TE:=fun σ H Q=>ta σ H fun x H1=>∃ a C dx fs v,x = .ref a∧H1 a=some (.ins C dx fs)∧Hn K C∧dq K C f∧fs.lookup f=some v∧Q v H1
noncomputable def WQ (K:PySem.W.Frag) (ta tv:TE) (f:Str):TS:=fun D σ H=>tv σ H fun y H1=>ta σ H1 fun x H2=>∃ a C dx fs,x = .ref a∧H2 a=some (.ins C dx fs)∧Hn K C∧dq K C f∧fs.length < 1000 ∧
 D.nx σ (upd H2 a (.ins C dx (ja f y fs)))
section
variable {X:Cx} {o e value:Expr} {f:Str} {pos pos' l7:Pos} {ta tv:TE}
theorem L1 (he:PE X e ta) (hb:attributeBase e f X.env (eval e X.env)=eval e X.env):PE X (.Attribute e f pos) (WO X.K ta f):=by
 intro pins s σ H Q I h
 refine Ho hb (cb (he pins s σ H _ I h) fun u s1 ⟨x,H1,I1,rx,a,C,dx,fs,v,ex,ea,c,n,l,q⟩=>?_)
 subst ex
 obtain rfl:u=Value.ref a:=rx
 exact xV I1 ea c n l fun u' s2 I2 ru=>⟨v,H1,I2,ru,q⟩
theorem L3 (ha:PE X o ta) (hv:PE X value tv) (hs:swapsWith value (some (.Attribute o f pos')) pos.line X.env=pure false):PS X (.Assign [.Attribute o f pos'] value pos) (WQ X.K ta tv f):=by
 intro pins s σ H D I h
 refine plainObj_wpAny_Assign_Attribute (cb (hv pins s σ H _ I h) fun u s1 ⟨y,H1,I1,ry,q⟩=>cb (ha pins s1 σ H1 _ I1 q) fun ov s2 ⟨x,H2,I2,rx,a,C,dx,fs,ex,ea,c,n,l,q2⟩=>?_) hs
 subst ex
 obtain rfl:ov=Value.ref a:=rx
 exact xW I2 ea c n l ry fun s3 I3=>⟨σ,_,I3,q2⟩
end
section
variable {X:Cx} {pins:List (Addr×Obj)} {σ:St} {H:Hp} {s:Shared} {A:Around} {E:Value→Shared→Prop} {Q:Value→Shared→Prop} {c:Value} {b:Bool}
end
structure bA (k:Nat) (A:Around):Prop where
 hd:A.handled=none
 dp:A.depth+3 * k+5 < recursionLimit
 un:A.units+16 * k+200 < cLine
theorem bA.mono {j k:Nat} {A:Around} (r:bA k A) (h:j≤k):bA j A:=⟨r.hd,by have:=r.dp; omega,by have:=r.un; omega⟩
theorem bA.deeper {k:Nat} {A:Around} (r:bA (k+1) A) (env:Env):bA k (A.deeper env) :=
 ⟨r.hd,by have:=r.dp; show A.depth+1+3 * k+5 < _; omega,by have:=r.un; show A.units+3+16 * k+200 < _; omega⟩
theorem xX {A:Around} {C:Addr} {us:List Value} {kw:List (Str×Value)}:(A.under (.builtin "type.__call__" ⟨.ref C :: us,kw⟩)).depth=A.depth+1:=by
 first | rfl | simp [Around.under,Code.weight,Code.isCreation,Code.isGuard,Code.isCaller,Code.frames,Code.isFrame,guardIds]
theorem xY {A:Around} {C:Addr} {us:List Value} {kw:List (Str×Value)}:(A.under (.builtin "type.__call__" ⟨.ref C :: us,kw⟩)).units=A.units+1:=by
 first | rfl | simp [Around.under,Code.cUnits,Code.frames,Code.isFrame]
theorem bA.make {k:Nat} {A:Around} (r:bA (k+1) A) (C:Addr) (us:List Value) (kw:List (Str×Value)):bA k (A.under (.builtin "type.__call__" ⟨.ref C :: us,kw⟩)) :=
 ⟨r.hd,by have:=r.dp; rw [xX]; omega,by have:=r.un; rw [xY]; omega⟩
theorem bA.depth {k:Nat} {A:Around} (r:bA k A):A.depth < recursionLimit:=by have:=r.dp; omega
noncomputable def WR:TA:=fun _ H Q=>Q [] H
noncomputable def Qp (ta:TE) (tr:TA):TA:=fun σ H Q=>ta σ H fun x H1=>tr σ H1 fun xs H2=>Q (x :: xs) H2
section
variable {X:Cx} {e:Expr} {es:List Expr} {te:TE} {t:TA} {pos:Pos}
theorem d6:PA X [] WR:=fun _ _ _ _ H Q I h=>Calls.spliced_nil ⟨[],H,I,.nil,h⟩
theorem bS (ha:PE X e te) (hr:PA X es t) (hs:starEach (e :: es) X.env=(false,eval e X.env) :: starEach es X.env:=by rfl):PA X (e :: es) (Qp te t):=by
 intro pos pins s σ H Q I h
 rw [hs]
 show wpAny _ _ (spliced ((false,eval e X.env) :: backTo pos (starEach es X.env))) _ _ s
 refine Calls.spliced_cons (cb (ha pins s σ H _ I h) fun u s1 ⟨x,H1,I1,r1,q1⟩=>?_)
 exact cb (hr pos pins s1 σ H1 _ I1 q1) fun us s2 ⟨xs,H2,I2,r2,q2⟩=>⟨x :: xs,H2,I2,.cons r1 r2,q2⟩
noncomputable def WS (t:TA):TE:=fun σ H Q=>t σ H fun xs H1=>xs.length≤sizeLine∧∀ p,H1 p=none→Q (.ref p) (upd H1 p (.tup xs))
noncomputable def WT (t:TA):TE:=fun σ H Q=>t σ H fun xs H1=>xs.length≤sizeLine∧∀ p,H1 p=none→Q (.ref p) (upd H1 p (.lst xs))
theorem C3 {x1} (h:PA X es t):PE X (.Tuple es x1 pos) (WS t):=by
 intro pins s σ H Q I hq
 refine wpAny_Tuple_spliced (cb (h pos pins s σ H _ I hq) fun us s1 ⟨xs,H1,I1,r,z,q⟩=>⟨by rw [← r.length]; exact z,?_⟩)
 have hf:H1 s1.heap.objs.size=none:=I1.bV.fresh (cA _)
 refine ⟨.ref s1.heap.objs.size,upd H1 s1.heap.objs.size (.tup xs),I1.laid (t':=s1.toks) (fun b u e=>fF _ e) (cA _) ?_,rfl,q _ hf⟩
 exact ⟨z,us,r,⟨_,mZ _ rfl,rfl,_,rfl⟩⟩
theorem L4 (h:PA X es t):PE X (.List es pos) (WT t):=by
 intro pins s σ H Q I hq
 refine wpAny_List_spliced (cb (h pos pins s σ H _ I hq) fun us s1 ⟨xs,H1,I1,r,z,q⟩=>⟨by rw [← r.length]; exact z,?_⟩)
 have hf:H1 s1.heap.objs.size=none:=I1.bV.fresh (cA _)
 refine ⟨.ref s1.heap.objs.size,upd H1 s1.heap.objs.size (.lst xs),I1.laid (t':=s1.toks) (fun b u e=>fF _ e) (cA _) ?_,rfl,q _ hf⟩
 exact ⟨z,us,0,r,mZ _ rfl⟩
end
noncomputable abbrev Sp:=List V→Hp→VK→XK→Prop
noncomputable abbrev AN:=List Env→Hp→Shared→XK→Value→Shared→Prop
structure xZ (P:Program) (w:World) (K:PySem.W.Frag) (mg:Str→Option Value) (base:Heap) (A:Around) (outer:List Env) (s:Shared) (H:Hp):Prop where
 frames:A.frames=some outer
 mod:Mod K mg base
 bs:∀ b o,base.get? b=some o→s.heap.get? b=some o∧H b=none
 Cv:base.objs.size≤s.heap.objs.size
 kF:s.heap.FunFrames base outer
 G7:∀ b∈Cu outer,H b=none
 bV:kE P w H s.heap
 bare:AllBare s.gens
noncomputable def CE (outer:List Env) (P:Program) (w:World) (H:Hp) (s:Shared) (Q:VK) (u:Value) (s':Shared):Prop :=
 ∃ v H',s'.os=s.os∧AllBare s'.gens∧Un (Cu outer) [] H H' s.heap s'.heap∧kE P w H' s'.heap∧RelV v u∧Q v H'
noncomputable def CR (CX:AN) (outer:List Env) (P:Program) (w:World) (H:Hp) (s:Shared) (Q:VK) (E:XK) (r:Result) (s':Shared):Prop :=
 match r with
 | .ok (.ret u)=>CE outer P w H s Q u s'
 | .ok _=>False
 | .error e=>CX outer H s E e s'
structure d0 (P:Program) (w:World) (K:PySem.W.Frag) (mg:Str→Option Value) (base:Heap) (CX:AN) (k:Nat) (f:Addr) (fd:FuncData) (ps:List Str) (sp:Sp):Prop where
 len:∀ vs H Q E,sp vs H Q E→vs.length=ps.length
 run:∀ (A:Around) (outer:List Env) (s:Shared) (H:Hp) (args:Args) (us:List Value) (vs:List V) (Q:VK) (E:XK),bA k A→xZ P w K mg base A outer s H→BindsTo s fd args (ps.zip us)→Vals vs us→sp vs H Q E →
  codeAny (model P w) A (.call (.ref f) args) (CR CX outer P w H s Q E) s
theorem d0.mono {P:Program} {w:World} {K:PySem.W.Frag} {mg:Str→Option Value} {base:Heap} {CX:AN} {j k:Nat} {f:Addr} {fd:FuncData} {ps:List Str} {sp:Sp} (F:d0 P w K mg base CX j f fd ps sp) (h:j≤k) :
 d0 P w K mg base CX k f fd ps sp:=⟨F.len,fun A outer s H args us vs Q E hr=>F.run A outer s H args us vs Q E (hr.mono h)⟩
theorem xZ.make {P:Program} {w:World} {K:PySem.W.Frag} {mg:Str→Option Value} {base:Heap} {A:Around} {outer:List Env} {s:Shared} {H:Hp} (e:xZ P w K mg base A outer s H) (C:Addr) (us:List Value) (kw:List (Str×Value)) :
 xZ P w K mg base (A.under (.builtin "type.__call__" ⟨.ref C :: us,kw⟩)) outer s H:=⟨by first | exact e.frames | (simpa [Around.under,Code.envs,Code.isFrame,pushEnvs] using e.frames),e.mod,e.bs,e.Cv,e.kF,e.G7,e.bV,e.bare⟩
section
variable {X:Cx} {pins:List (Addr×Obj)} {σ:St} {H:Hp} {s s':Shared}
theorem Inv.Qq (I:Inv X pins σ H s):xZ X.prog X.w X.K X.mg X.base X.A X.stack s H :=
 ⟨I.ok.frames,I.ok.mod,I.bs,nI I.ok.Cv I.sz,I.stack,I.zl,I.bV,I.bare⟩
theorem Inv.after {Q:VK} {u:Value} (I:Inv X pins σ H s) (h:CE X.stack X.prog X.w H s Q u s'):EP X pins σ Q u s':=by
 obtain ⟨v,H',os,bare,un,bV,r,q⟩:=h
 obtain ⟨hh,g,d,t,Qr⟩:=s'
 obtain rfl:Qr=s.os:=os
 exact ⟨v,H',I.call (h':=hh) (g':=g) (d':=d) (t':=t) (ch:=[]) un bV bare (fun b z=>absurd z (by simp)),r,q⟩
end
noncomputable def Qs (sp:Sp) (xB:List V) (E:XK) (t:TA):TE:=fun σ H Q=>t σ H fun vs H1=>sp (vs ++ xB) H1 Q E
noncomputable def Qt (C:Addr) (sp:Sp) (xB:List V) (E:XK) (t:TA):TE:=fun σ H Q=>t σ H fun vs H1=>∀ x dx,H1 x=none→H1 dx=none→dx≠x →
 sp (.ref x :: (vs ++ xB)) (upd (upd H1 dx (.own x)) x (.ins C dx [])) (fun v H2=>v = .bb∧Q (.ref x) H2) E
noncomputable def Binds (K:PySem.W.Frag) (fd:FuncData) (ps:List Str) (ds:List Value):Prop :=
 ∀ (s:Shared) (us:List Value),K.In s.heap→(us ++ ds).length=ps.length→BindsTo s fd ⟨us,[]⟩ (ps.zip (us ++ ds))
theorem Binds.all {K:PySem.W.Frag} {fd:FuncData} {ps:List Str} (h:∀ us:List Value,us.length=ps.length→bindArgs fd ⟨us,[]⟩=pure (ps.zip us)):Binds K fd ps []:=fun s us _ hl=>by
 rw [xw] at hl ⊢
 exact .of_eq (h us hl)
noncomputable def Passes (CX:AN) (X:Cx) (E:XK):Prop:=∀ (pins:List (Addr×Obj)) (σ:St) (H:Hp) (s:Shared) (e:Value) (s':Shared),Inv X pins σ H s→CX X.stack H s E e s'→X.xe e s'
section
variable {X:Cx} {CX:AN} {k:Nat} {f C:Addr} {fd:FuncData} {ps:List Str} {sp:Sp} {xB:List V} {ds:List Value} {E:XK} {x m:Str} {p pos apos:Pos} {e o:Expr} {es:List Expr} {ta:TE} {t:TA}
theorem C4 {pins:List (Addr×Obj)} {σ:St} {H:Hp} {s:Shared} {Q:VK} {us:List Value} {vs:List V} (F:d0 X.prog X.w X.K X.mg X.base CX k f fd ps sp) (hr:bA k X.A) (hb:Binds X.K fd ps ds) (hd:Vals xB ds) (hx:Passes CX X E)
  (I:Inv X pins σ H s) (r:Vals vs us) (h:sp (vs ++ xB) H Q E):wpAny (model X.prog X.w) X.A (call (.ref f) us) (EP X pins σ Q) X.xe s:=by
 have r2:Vals (vs ++ xB) (us ++ ds):=r.append hd
 have hl:(us ++ ds).length=ps.length:=by rw [← r2.length]; exact F.len _ _ _ _ h
 refine wpAny_call (codeAny_mono (F.run X.A X.stack s H ⟨us,[]⟩ (us ++ ds) (vs ++ xB) Q E hr I.Qq (hb s us I.rj hl) r2 h) fun r s' hq=>?_)
 cases r with
 | error e=>exact hx pins σ H s e s' I hq
 | ok fl =>
   cases fl with
   | ret u=>exact I.after hq
   | _=>exact False.elim hq
theorem nZ (F:d0 X.prog X.w X.K X.mg X.base CX k f fd ps sp) (hr:bA k X.A) (hg:Gl X x) (hm:X.mg x=some (.ref f)) (hk:PySem.W.keepIn X.K (.ref f)=true) (hb:Binds X.K fd ps ds) (hd:Vals xB ds) (hx:Passes CX X E)
  (ha:PA X (e :: es) t) (qj:(x == ("__debug__" : Str))=false:=by decide) (he:starEach (e :: es) X.env=(false,eval e X.env) :: starEach es X.env:=by rfl) (jg:(backTo pos (starEach es X.env)).any (·.1)=false:=by rfl) :
  PE X (.Call (.Name x p) (e :: es) [] pos) (Qs sp xB E t):=by
 intro pins s σ H Q I h
 refine wpAny_Call_Name_kw (sE I hg hm ?_ qj)
 refine PySem.W.callWith_K (h₀:=X.base) I.ok.mod.P4 hk (cb (ha pos pins s σ H _ I h) fun us s1 ⟨vs,H1,I1,r,q⟩=>⟨I1.rj,?_⟩) he jg
 exact C4 F hr hb hd hx I1 r q
structure Mk (K:PySem.W.Frag) (C f:Addr):Prop where
 makes:PySem.W.makesIn K C=true
 init:PySem.W.findIn K (.ref C) "__init__" = some (some (.ref f))
 fn:PySem.W.isFn K (.ref f)=true
 kp:PySem.W.keepIn K (.ref C)=true
theorem C5 {pins:List (Addr×Obj)} {σ:St} {H:Hp} {s:Shared} {Q:VK} {us:List Value} {vs:List V} (M:Mk X.K C f) (F:d0 X.prog X.w X.K X.mg X.base CX k f fd ps sp) (hr:bA (k+1) X.A) (hb:Binds X.K fd ps ds) (hd:Vals xB ds)
  (hx:Passes CX X E) (I:Inv X pins σ H s) (r:Vals vs us)
  (h:∀ x dx,H x=none→H dx=none→dx≠x→sp (.ref x :: (vs ++ xB)) (upd (upd H dx (.own x)) x (.ins C dx [])) (fun v H2=>v = .bb∧Q (.ref x) H2) E) :
  wpAny (model X.prog X.w) X.A (call (.ref C) us) (EP X pins σ Q) X.xe s:=by
 have hq:=h (s.heap.objs.size+1) s.heap.objs.size (I.bV.fresh (Lo _)) (I.bV.fresh (cA _)) (je (xv _))
 have I2:=Inv.made (C:=C) I
 have r2:Vals (V.ref (s.heap.objs.size+1) :: (vs ++ xB)) (Value.ref (s.heap.objs.size+1) :: (us ++ ds)):=.cons rfl (r.append hd)
 have hl:(Value.ref (s.heap.objs.size+1) :: us ++ ds).length=ps.length:=by
  have e:=r2.length
  rw [F.len _ _ _ _ hq] at e
  exact e.symm
 refine wpAny_call (C2 (f:=f) I.rj M.makes M.init (beq_iff_eq.mp M.fn) (codeAny_mono (F.run _ X.stack _ _ ⟨Value.ref (s.heap.objs.size+1) :: us,[]⟩ (Value.ref (s.heap.objs.size+1) :: (us ++ ds)) _ _ E (hr.make C us [])
  (I2.Qq.make C us []) (hb _ (Value.ref (s.heap.objs.size+1) :: us) I2.rj hl) r2 hq) fun r s' d3=>?_))
 cases r with
 | error e=>exact hx pins σ _ _ e s' I2 d3
 | ok fl =>
   cases fl with
   | ret u =>
     obtain ⟨v,H',I3,rv,ev,q3⟩:=I2.after d3
     subst ev
     exact ⟨rv,⟨V.ref (s.heap.objs.size+1),H',I3,rfl,q3⟩⟩
   | _=>exact False.elim d3
theorem Hq (M:Mk X.K C f) (F:d0 X.prog X.w X.K X.mg X.base CX k f fd ps sp) (hr:bA (k+1) X.A) (hg:Gl X x) (hm:X.mg x=some (.ref C)) (hb:Binds X.K fd ps ds) (hd:Vals xB ds) (hx:Passes CX X E)
  (ha:PA X (e :: es) t) (qj:(x == ("__debug__" : Str))=false:=by decide) (he:starEach (e :: es) X.env=(false,eval e X.env) :: starEach es X.env:=by rfl) (jg:(backTo pos (starEach es X.env)).any (·.1)=false:=by rfl) :
  PE X (.Call (.Name x p) (e :: es) [] pos) (Qt C sp xB E t):=by
 intro pins s σ H Q I h
 refine wpAny_Call_Name_kw (sE I hg hm ?_ qj)
 refine PySem.W.callWith_K (h₀:=X.base) I.ok.mod.P4 M.kp (cb (ha pos pins s σ H _ I h) fun us s1 ⟨vs,H1,I1,r,q⟩=>⟨I1.rj,?_⟩) he jg
 exact C5 M F hr hb hd hx I1 r q
end
section
variable {X:Cx} {CX:AN} {k:Nat} {f C:Addr} {fd:FuncData} {ps ks:List Str} {sp:Sp} {E:XK} {x m:Str} {p pos apos WU:Pos} {e o:Expr} {es:List Expr} {kws:List Keyword} {te ta:TE} {t tk:TA} {nm:Option Str}
variable {g:List Value→List Value→List Value} {gV:List V→List V→List V}
end
structure aN (N P:List Str) (sc:Scope):Prop where
 kind:sc.kind = .function
 co:sc.isCoroutine=false
 gen:sc.isGenerator=false
 nd:N.Nodup
 pre:N.take P.length=P
 par:∀ x∈P,sc.names.lookup x=some .local∨sc.names.lookup x=some .cell
 L5:∀ y∈sc.names,y.2≠.free
theorem rp {kindOf:Str→Option NameKind} {x:Str}:∀ {binds:List (Str×Value)} {m:Str→Option Value},(∀ v,(x,v)∉binds)→bindL kindOf binds m x=m x
 | [],_,_=>rfl
 | (n,v) :: r,m,h=>by
   unfold bindL
   rw [rp fun w hw=>h w (jc _ hw)]
   split
   · have:x≠n:=by rintro rfl; exact h v iw
     simp [this]
   · rfl
theorem rq {kindOf:Str→Option NameKind} {x:Str}:∀ {binds:List (Str×Value)} {m:Str→Option Value},(∀ v,(x,v)∉binds)→bindC kindOf binds m x=m x
 | [],_,_=>rfl
 | (n,v) :: r,m,h=>by
   unfold bindC
   rw [rq fun w hw=>h w (jc _ hw)]
   split
   · rfl
   · have:x≠n:=by rintro rfl; exact h v iw
     simp [this]
theorem rz {kindOf:Str→Option NameKind} {x:Str} {v:Value}:∀ {P:List Str} {vs:List Value} {i:Nat} {m:Str→Option Value},P.Nodup→P[i]?=some x→vs[i]?=some v→kindOf x=some .local →
  bindL kindOf (P.zip vs) m x=some v
 | [],_,_,_,_,h,_,_=>by simp at h
 | _ :: _,[],_,_,_,_,h,_=>by simp at h
 | p :: P,w :: vs,0,m,nd,h1,h2,hk=>by
   simp at h1 h2; subst h1; subst h2
   show bindL kindOf ((p,w) :: P.zip vs) m p=_
   unfold bindL
   rw [rp fun v hv=>(ow.mp nd).1 (List.of_mem_zip hv).1,if_pos hk]
   simp
 | p :: P,w :: vs,i+1,m,nd,h1,h2,hk=>by
   show bindL kindOf ((p,w) :: P.zip vs) m x=_
   unfold bindL
   exact rz (i:=i) (ow.mp nd).2 (by simpa using h1) (by simpa using h2) hk
theorem rA {kindOf:Str→Option NameKind} {x:Str} {v:Value}:∀ {P:List Str} {vs:List Value} {i:Nat} {m:Str→Option Value},P.Nodup→P[i]?=some x→vs[i]?=some v→kindOf x≠some .local →
  bindC kindOf (P.zip vs) m x=some v
 | [],_,_,_,_,h,_,_=>by simp at h
 | _ :: _,[],_,_,_,_,h,_=>by simp at h
 | p :: P,w :: vs,0,m,nd,h1,h2,hk=>by
   simp at h1 h2; subst h1; subst h2
   show bindC kindOf ((p,w) :: P.zip vs) m p=_
   unfold bindC
   rw [rq fun v hv=>(ow.mp nd).1 (List.of_mem_zip hv).1,if_neg hk]
   simp
 | p :: P,w :: vs,i+1,m,nd,h1,h2,hk=>by
   show bindC kindOf ((p,w) :: P.zip vs) m x=_
   unfold bindC
   exact rA (i:=i) (ow.mp nd).2 (by simpa using h1) (by simpa using h2) hk
noncomputable def start (N:List Str) (vs:List V):St:=vs.map some ++ List.replicate (N.length - vs.length) none
noncomputable def iA (CX:AN) (P:Program) (w:World) (K:PySem.W.Frag) (mg:Str→Option Value) (base:Heap) (N:List Str) (qual:Str) (scope:Scope) (f:Addr) (cd:Value) (A:Around) (outer:List Env) (s:Shared) (H:Hp) (E:XK):Cx where
 prog:=P
 w:=w
 K:=K
 mg:=mg
 base:=base
 A:=A.deeper (envOfC qual scope s.heap.objs.size f cd)
 N:=N
 s₀:=s
 H₀:=H
 env:=envOfC qual scope s.heap.objs.size f cd
 outer:=outer
 stack:=envOfC qual scope s.heap.objs.size f cd :: outer
 ex:=[]
 calm:=true
 fn:=fun _=>true
 pn:=[]
 xe:=fun e s'=>wpAny (model P w) (A.deeper (envOfC qual scope s.heap.objs.size f cd)) (leaving (envOfC qual scope s.heap.objs.size f cd) e) (fun _ Qu=>CX outer H s E e Qu) (fun e' Qu=>CX outer H s E e' Qu) s'
theorem u3 {sc:Scope} {n:Nat} {x:Str} (h:sc.names.lookup x=some .cell):∃ c,(cellsFrom n sc.names []).lookup x=some c:=by
 have q:=PySem.W.cellsFrom_some sc.names n [] (.inl h)
 exact Option.isSome_iff_exists.mp q
theorem AO {CX:AN} {P:Program} {w:World} {K:PySem.W.Frag} {mg:Str→Option Value} {base:Heap} {N ps:List Str} {qual:Str} {scope:Scope} {f:Addr} {cd:Value} {A:Around} {outer:List Env} {s s1:Shared} {H:Hp} {E:XK} {us:List Value} {vs:List V}
  (S:aN N ps scope) (hd:A.handled=none) (e0:xZ P w K mg base A outer s H) (hl:vs.length=ps.length) (r:Vals vs us)
  (x:InCallC s s.heap.objs.size (bindL (envOfC qual scope s.heap.objs.size f cd).kindOf (ps.zip us) fun _=>none) (cellsFrom (s.heap.objs.size+1) scope.names []) (bindC (envOfC qual scope s.heap.objs.size f cd).kindOf (ps.zip us) fun _=>none) s1) :
  Inv (iA CX P w K mg base N qual scope f cd A outer s H E) [] (start N vs) H s1:=by
 have jg:ps.length≤N.length:=by have:=congrArg List.length S.pre; rw [CM] at this; omega
 obtain ⟨h1,tk,rfl,hk⟩:=x.done
 have Qv:∀ b:Addr,b∉(iA CX P w K mg base N qual scope f cd A outer s H E).ex:=fun b z=>absurd (show b∈([]:List Addr) from z) (by simp)
 refine ⟨⟨e0.mod,S.kind,rfl,rfl,cA _,fun y z c h1 h2=>?_,fun y hy=>?_,fun y c _ h=>?_,fun _=>hd,Around.frames_deeper e0.frames,.inr ⟨rfl,rfl⟩,fun b z=>absurd z (Qv b),e0.bs,e0.Cv,fun b _ _=>Qv b,fun b z=>absurd z (Qv b),e0.kF,e0.G7⟩,
  rfl,e0.bare,Un.kept hk,⟨_,x.toInCall.ns,fun i y v h1 h2 h3=>?_⟩,fun y c h=>⟨_,x.cell y c h⟩,e0.bV.fresh (cA _),fun y c h=>?_,fun p hp=>absurd (show p∈([]:List (Addr×Obj)) from hp) (by simp),e0.bV.kept hk,?_⟩
 · exact name_of_addr x.apart (Kc h1) (Kc h2)
 · have hy:scope.names.lookup y=some .cell∨scope.names.lookup y=some .free:=hy
   rcases hy with hy | hy
   · exact u3 hy
   · exact absurd rfl (S.L5 _ (Kc hy))
 · exact Nat.le_of_lt (x.above y c (Kc h))
 · have hi:i < vs.length:=by
    unfold start at h2
    by_cases hi:i < vs.length
    · exact hi
    · rw [sA (by simpa using hi)] at h2
      rw [Av] at h2
      split at h2 <;> cases h2
   have ha:vs[i]?=some v:=by
    unfold start at h2
    rw [oq (by simpa using hi),gw] at h2
    cases e:vs[i]? with
    | none=>rw [e] at h2; cases h2
    | some a=>rw [e] at h2; cases h2; rfl
   obtain ⟨u,hu,rv⟩:=r.get ha
   have hp:ps[i]?=some y:=by
    rw [← S.pre,List.getElem?_take_of_lt (by omega)]; exact h1
   have ZR:ps.Nodup:=by rw [← S.pre]; exact S.nd.sublist (List.take_sublist _ _)
   refine ⟨u,rv,?_⟩
   rcases S.par y (j7 hp) with k | k
   · exact .inl ⟨k,rz ZR hp hu k⟩
   · obtain ⟨c,e⟩:=u3 (n:=s.heap.objs.size+1) k
     refine .inr ⟨.inl k,c,e,?_⟩
     have q:=x.cell y c e
     rw [rA ZR hp hu (by show scope.names.lookup y≠_; rw [k]; decide)] at q
     exact q
 · exact e0.bV.fresh (Nat.le_of_lt (x.above y c (Kc h)))
 · unfold start
   show _=N.length
   rw [qd,b_,xt]
   omega
theorem Qw {CX:AN} {P:Program} {w:World} {K:PySem.W.Frag} {mg:Str→Option Value} {base:Heap} {k:Nat} {f:Addr} {name qual:Str} {params:Arguments} {body:List Stmt} {scope:Scope} {dV kV doc pm bO ct oc:Value} {an od:Option Addr}
  {GC:Array (Option Value)} {N ps:List Str} {sp:Sp} (lk:K.lookup f=some ⟨oc,od,.func (PySem.W.fnOf name qual params body scope dV kV doc pm an bO ct),GC⟩) (j8:PySem.W.codeIn K bO qual=true) (S:aN N ps scope)
  (len:∀ vs H Q E,sp vs H Q E→vs.length=ps.length)
  (jh:∀ (A:Around) (outer:List Env) (s:Shared) (H:Hp) (vs:List V) (Q:VK) (E:XK),bA k (A.deeper (envOfC qual scope s.heap.objs.size f bO))→sp vs H Q E →
    ∃ t,nY (iA CX P w K mg base N qual scope f bO A outer s H E) body t∧t { nx:=fun _ H'=>Q .bb H',rt:=Q } (start N vs) H) :
  d0 P w K mg base CX (k+1) f (PySem.W.fnOf name qual params body scope dV kV doc pm an bO ct) ps sp:=by
 refine ⟨len,fun A outer s H args us vs Q E hr e0 hb r O9=>?_⟩
 have hl:=len _ _ _ _ O9
 have KX:K.In s.heap:=e0.mod.P4.keeps fun b o e=>(e0.bs b o e).1
 have lim:s.heap.NoLimit:=e0.mod.nolimit.keeps fun b o e=>(e0.bs b o e).1
 have Qx:∀ y∈ps.zip us,scope.names.lookup y.1=some .local∨(scope.names.lookup y.1=some .cell∧((cellsFrom (s.heap.objs.size+1) scope.names []).lookup y.1).isSome=true):=fun ⟨n,v⟩ hy=>by
  rcases S.par n (List.of_mem_zip hy).1 with q | q
  · exact .inl q
  · exact .inr ⟨q,PySem.W.cellsFrom_some _ _ _ (.inl q)⟩
 refine codeAny_call_function hr.depth (KX _ _ lk) rfl S.co S.gen rfl (PySem.W.codeRec_of KX j8) (hb _ _ _ _ ?_)
 refine wpAny_newFunctionEnv_cells S.kind Qx fun env he s1 x=>?_
 subst he
 refine ⟨lim.keeps x.toInCall.keep,codeAny_func ?_⟩
 obtain ⟨t,ht,hq⟩:=jh A outer s H vs Q E (hr.deeper _) O9
 have I:Inv (iA CX P w K mg base N qual scope f bO A outer s H E) [] (start N vs) H s1:=AO S hr.hd e0 hl r x
 refine wpAny_mono (ht [] s1 (start N vs) H _ I hq) (fun fl s' hs=>?_) fun e s' hs=>hs
 have fin:∀ {σ':St} {H':Hp} {v:V} {u:Value},Inv (iA CX P w K mg base N qual scope f bO A outer s H E) [] σ' H' s'→RelV v u→Q v H'→CE outer P w H s Q u s' :=
  fun {σ' H' v u} J rv q=>⟨v,H',J.os,J.bare,J.base,J.bV,rv,q⟩
 cases fl with
 | ret u =>
   obtain ⟨v,σ',H',J,rv,q⟩:=hs
   exact fin J rv q
 | next =>
   obtain ⟨σ',H',J,q⟩:=hs
   exact fin (v:=V.bb) (u:=Value.none) J rfl q
 | brk =>
   obtain ⟨_,_,_,q⟩:=hs
   exact False.elim q
 | cont =>
   obtain ⟨_,_,_,q⟩:=hs
   exact False.elim q
section
variable {X:Cx} {x:Str} {p pos:Pos} {e:Expr} {es:List Expr} {t:TA} {id T:String} {r:List V→Hp→VK→Prop}
noncomputable def ZS (r:List V→Hp→VK→Prop) (t:TA):TE:=fun σ H Q=>t σ H fun vs H1=>r vs H1 Q
theorem kJ (hc:c8 X (.builtin id) r) (hg:Gl X x) (hm:X.mg x=none) (hv:bootBuiltins x=some (.builtin id)) (ha:PA X (e :: es) t) (hn:x≠"__name__":=by decide) (qj:(x == ("__debug__" : Str))=false:=by decide)
  (he:starEach (e :: es) X.env=(false,eval e X.env) :: starEach es X.env:=by rfl) (jg:(backTo pos (starEach es X.env)).any (·.1)=false:=by rfl):PE X (.Call (.Name x p) (e :: es) [] pos) (ZS r t):=by
 intro pins s σ H Q I h
 refine wpAny_Call_Name_kw (j9 I hg hm hv ?_ hn qj)
 exact PyProof.Rows.callWith_builtin1 (cb (ha pos pins s σ H _ I h) fun us s1 ⟨vs,H1,I1,r1,q1⟩=>hc pins s1 σ H1 vs us Q I1 r1 q1) he jg
theorem rB (hc:c8 X (.type T) r) (hg:Gl X x) (hm:X.mg x=none) (hv:bootBuiltins x=some (.type T)) (ha:PA X (e :: es) t) (hn:x≠"__name__":=by decide) (qj:(x == ("__debug__" : Str))=false:=by decide)
  (he:starEach (e :: es) X.env=(false,eval e X.env) :: starEach es X.env:=by rfl) (jg:(backTo pos (starEach es X.env)).any (·.1)=false:=by rfl):PE X (.Call (.Name x p) (e :: es) [] pos) (ZS r t):=by
 intro pins s σ H Q I h
 refine wpAny_Call_Name_kw (j9 I hg hm hv ?_ hn qj)
 exact PL (cb (ha pos pins s σ H _ I h) fun us s1 ⟨vs,H1,I1,r1,q1⟩=>hc pins s1 σ H1 vs us Q I1 r1 q1) he jg
end
end L2
namespace HT
open PySem PyProof.Rows
section
open PySem.SeqAt
open PySem.AutoSeq1 (wpAny_loadPart')
open PySem.MeetsSeq PySem.MeetsSeq2 PySem.MeetsSeq3
end
section
variable {prog:Program} {w:World} {A:Around} {E:Value→Shared→Prop} {s:Shared}
theorem Hr {t b:Addr} {vs ws:List Value} {Q:Value→Shared→Prop} (ht:IsTup s.heap t vs.toArray) (hb:IsTup s.heap b ws.toArray) (hv:vs≠[])
  (h1:ws=[]→Q (.ref t) s) (h2:ws≠[]→Q (.ref s.heap.objs.size) { s with heap:=s.heap.push { cls:=.type "tuple",data:=.seq (vs ++ ws).toArray } })
  (zv:vs.length+ws.length≤sizeLine):wpAny (model prog w) A (binaryOp .Add (.ref t) (.ref b)) Q E s:=by
 obtain ⟨⟨cls,dd,data,sl⟩,ho,hc,n,hd⟩:=id ht
 obtain ⟨⟨Qy,O_,data2,Pa⟩,Cy,Cz,n2,hd2⟩:=id hb
 simp only at hc hd Cz hd2
 subst hc hd Cz hd2
 have e:vs.toArray ++ ws.toArray=(vs ++ ws).toArray:=by simp
 by_cases hw:ws=[]
 · exact concat_meets ⟨_,ho,rfl⟩ ⟨_,Cy,rfl⟩ noFill_tuple_add seq_tuple_add Wd V' (V_ _ _)
    (tuple_addW1 t b vs.toArray ws.toArray n n2 dd O_ sl Pa (by simpa using hv) (by simp [hw])) ⟨ho,Cy,h1 hw⟩
 · refine concat_meets ⟨_,ho,rfl⟩ ⟨_,Cy,rfl⟩ noFill_tuple_add seq_tuple_add Wd V' (V_ _ _)
    (tuple_addW2 t b vs.toArray ws.toArray n n2 dd O_ sl Pa (by simpa using hv) (by simpa using hw) (by rw [g8,g8]; exact zv)) ⟨ho,Cy,?_⟩
   rw [e]
   exact h2 hw
noncomputable def dA (n d:Nat):Option Int→Nat
 | none=>d
 | some v=>if v < 0 then (v+(n:Int)).toNat else min v.toNat n
theorem u4 (n d:Nat):dA n d none=d:=rfl
theorem gE (n d k:Nat):dA n d (some (k:Int))=min k n:=by
 show (if (k:Int) < 0 then ((k:Int)+(n:Int)).toNat else min (k:Int).toNat n)=min k n
 rw [if_neg (by omega),lU]
theorem L6 (n d:Nat) (hd:d≤n) (o:Option Int):dA n d o≤n:=by
 cases o with
 | none=>exact hd
 | some v =>
   show (if v < 0 then (v+(n:Int)).toNat else min v.toNat n)≤n
   by_cases hv:v < 0
   · rw [if_pos hv]; omega
   · rw [if_neg hv]; exact Nat.min_le_right _ _
theorem zx (v:Int) (n d:Nat):(if v < 0 then max (v+(n:Int)) 0 else min v (n:Int))=((dA n d (some v):Nat):Int):=by
 show (if v < 0 then max (v+(n:Int)) 0 else min v (n:Int))=(((if v < 0 then (v+(n:Int)).toNat else min v.toNat n):Nat):Int)
 by_cases hv:v < 0
 · simp only [if_pos hv]; omega
 · simp only [if_neg hv]; omega
theorem x3 (lo hi:Option Int) (n:Nat):Builtin.Slice.sliceAdjust lo hi 1 (n:Int)=(((dA n 0 lo:Nat):Int),((dA n n hi:Nat):Int)):=by
 have h1:¬ ((1:Int) < 0):=by omega
 unfold Builtin.Slice.sliceAdjust
 simp only [h1,if_false]
 refine Prod.ext ?_ ?_
 · cases lo with
   | none=>rfl
   | some v=>exact zx v n 0
 · cases hi with
   | none=>rfl
   | some v=>exact zx v n n
theorem x4 (i j:Nat):Builtin.Slice.slicePlaces (i:Int) (j:Int) 1=j - i:=by
 unfold Builtin.Slice.slicePlaces
 have h1:(1:Int) > 0:=by omega
 simp only [h1,if_true,Int.ediv_one]
 split <;> omega
theorem oA {v:Value} {o:Option Int} {Q:Option Int→Shared→Prop} (p:IsPart v o) (h:Q o s):wpAny (model prog w) A (Builtin.Slice.slicePartIndex v) Q E s:=by
 cases p with
 | none=>exact slicePart_none h
 | int i t=>exact slicePart_int h
theorem l9 {sl:Addr} {vl vu:Value} {lo hi:Option Int} {n:Nat} {Q:Int×Int×Nat→Shared→Prop} (hs:s.heap.IsSliceOf sl vl vu .none) (pl:IsPart vl lo) (pu:IsPart vu hi)
  (h:Q (((dA n 0 lo:Nat):Int),1,dA n n hi - dA n 0 lo) s):wpAny (model prog w) A (Builtin.Slice.sliceApplied (.ref sl) (pure (n:Int))) Q E s:=by
 obtain ⟨os,Qz,ZT,Vg⟩:=id hs
 unfold Builtin.Slice.sliceApplied Builtin.Slice.sliceFields
 refine wpAny_bind (wpAny_bind (wpAny_field Qz Vg (x:=vl) rfl (wpAny_bind (wpAny_field Qz Vg (x:=vu) rfl (wpAny_bind (wpAny_field Qz Vg (x:=.none) rfl (wpAny_pure ?_)))))))
 refine wpAny_bind (slicePart_none ?_)
 show wpAny _ _ (if ((1:Int) == 0)=true then _ else _) _ _ s
 rw [if_neg (by decide)]
 refine wpAny_bind (oA pl (wpAny_bind (oA pu (wpAny_bind (wpAny_pure ?_)))))
 show wpAny _ _ (match Builtin.Slice.sliceAdjust lo hi 1 (n:Int) with | (lo,hi)=>pure (lo,(1:Int),Builtin.Slice.slicePlaces lo hi 1)) _ _ s
 rw [x3 lo hi n]
 show wpAny _ _ (pure (((dA n 0 lo:Nat):Int),(1:Int),Builtin.Slice.slicePlaces ((dA n 0 lo:Nat):Int) ((dA n n hi:Nat):Int) 1)) _ _ s
 rw [x4]
 exact wpAny_pure h
theorem C6 (xs:Array Value) (i k:Nat):((List.range k).filterMap fun (m:Nat)=>xs[((i:Int)+(m:Int) * 1).toNat]?).toArray=((xs.toList.drop i).take k).toArray:=by
 have e:(fun (m:Nat)=>xs[((i:Int)+(m:Int) * 1).toNat]?)=fun m=>xs[i+m]?:=by
  funext m
  have:((i:Int)+(m:Int) * 1).toNat=i+m:=by omega
  rw [this]
 rw [e]
 have:=pick_run xs i k
 rw [List.filterMap_map] at this
 have e2:((fun x=>xs[x]?) ∘ fun x=>i+x)=fun m=>xs[i+m]?:=rfl
 rw [e2] at this
 rw [this]
theorem kK {t sl:Addr} {items:Array Value} {vl vu:Value} {lo hi:Option Int} {Q:Value→Shared→Prop} (ht:IsTup s.heap t items) (hs:s.heap.IsSliceOf sl vl vu .none) (pl:IsPart vl lo) (pu:IsPart vu hi)
  (hw:¬ (dA items.size 0 lo=0∧dA items.size items.size hi=items.size))
  (h:Q (.ref s.heap.objs.size) { s with heap:=s.heap.push { cls:=.type "tuple",data:=.seq ((items.toList.drop (dA items.size 0 lo)).take (dA items.size items.size hi - dA items.size 0 lo)).toArray } })
  (zv:items.size≤sizeLine):wpAny (model prog w) A (getItem (.ref t) (.ref sl)) Q E s:=by
 have zy:sizeOk (.seq ((items.toList.drop (dA items.size 0 lo)).take (dA items.size items.size hi - dA items.size 0 lo)).toArray):=by
  show ((items.toList.drop (dA items.size 0 lo)).take (dA items.size items.size hi - dA items.size 0 lo)).toArray.size≤sizeLine
  rw [g8,CM,PU,OR]
  omega
 have hj:dA items.size items.size hi≤items.size:=L6 _ _ (cA _) hi
 obtain ⟨os,Qz,ZT,Vg⟩:=id hs
 have hTs:s.TypeIs (.ref sl) "slice":=⟨os,Qz,ZT⟩
 unfold getItem
 try with_reducible refine wpAny_holding ?_
 first | refine wpAny_bind (wpAny_pure ?_) | skip
 refine wpAny_bind (wpAny_sequenceKey ht.typeIs (by decide) ?_)
 refine wpAny_bind (wpAny_callSpecial?_slot (name:=Str.ofString "__getitem__") ht.typeIs V8
  (wpAny_call_entry V8 ht.typeIs entry_tuple_getitem ?_ (args_tuple_getitem _ _)))
 show wpAny _ _ (Builtin.Tuple.tupleItemsOf (.ref t) >>= _) _ _ s
 refine wpAny_bind (tupleItemsOf_ ht ?_)
 refine wpAny_bind (wpAny_typeOf hTs ?_)
 rw [if_pos (by decide)]
 refine wpAny_bind (l9 hs pl pu ?_)
 have CA:¬ ((((dA items.size 0 lo:Nat):Int) == 0 && (1:Int) == 1 && (dA items.size items.size hi - dA items.size 0 lo) == items.size)=true):=by
  intro q
  rw [kB,kB] at q
  have q1:((dA items.size 0 lo:Nat):Int)=0:=eq_of_beq q.1.1
  have q2:dA items.size items.size hi - dA items.size 0 lo=items.size:=eq_of_beq q.2
  exact hw ⟨by omega,by omega⟩
 show wpAny _ _ (if (((dA items.size 0 lo:Nat):Int) == 0 && (1:Int) == 1 && (dA items.size items.size hi - dA items.size 0 lo) == items.size)=true then _ else _) _ _ s
 rw [if_neg CA,C6]
 first
  | exact wpAny_bind (m:=Builtin.Tuple.tupleExact _) (wpAny_newObj_type (wpAny_pure ⟨_,rfl,wpAny_pure h⟩) zy)
  | exact wpAny_bind (m:=Builtin.Tuple.tupleExact _) (wpAny_newObj_type (wpAny_bind (wpAny_pure (wpAny_pure ⟨_,rfl,wpAny_pure h⟩))) zy)
  | exact wpAny_bind (wpAny_bind (m:=Builtin.Tuple.tupleExact _) (wpAny_newObj_type (wpAny_pure (wpAny_pure ⟨_,rfl,wpAny_pure h⟩)) zy))
  | exact wpAny_bind (wpAny_bind (m:=Builtin.Tuple.tupleExact _) (wpAny_newObj_type (wpAny_pure ⟨_,rfl,wpAny_pure h⟩) zy))
end
end HT
namespace L2
open PySem PySem.Spec PyProof.Rows
noncomputable abbrev TO:=St→Hp→(Option Int→Hp→Prop)→Prop
noncomputable def PO (X:Cx) (e:Option Expr) (t:TO):Prop :=
 ∀ (pins:List (Addr×Obj)) (s:Shared) (σ:St) (H:Hp) (Q:Option Int→Hp→Prop),Inv X pins σ H s→t σ H Q →
  wpAny (model X.prog X.w) X.A (evalPart e X.env) (fun u s'=>∃ o H',Inv X pins σ H' s'∧IsPart u o∧Q o H') X.xe s
noncomputable def Hs:TO:=fun _ H Q=>Q none H
noncomputable def QA (t:TE):TO:=fun σ H Q=>t σ H fun x H1=>∃ i,x = .int i∧Q (some i) H1
theorem intsAre_of {ns:List Int}:∀ {us:List Value},Vals (ns.map V.int) us→IntsAre us ns:=by
 induction ns with
 | nil=>intro us r; rw [Cs] at r; cases r; exact .nil
 | cons n ns ih =>
   intro us r
   rw [g9] at r
   cases r with
   | cons r1 r2 =>
     obtain ⟨t,e⟩:=r1
     subst e
     exact .cons n t (ih r2)
section
variable {X:Cx} {e:Expr} {te:TE} {lo hi:Option Expr} {tl th:TO} {pos p2:Pos}
theorem Ht:PO X none Hs:=by
 intro pins s σ H Q I h
 rw [evalPart_none]
 exact wpAny_pure ⟨none,H,I,.none,h⟩
theorem Hu (h:PE X e te):PO X (some e) (QA te):=by
 intro pins s σ H Q I hw
 rw [evalPart_some]
 refine cb (h pins s σ H _ I hw) fun u s1 ⟨x,H1,I1,r1,q1⟩=>?_
 obtain ⟨i,rfl,q⟩:=q1
 obtain ⟨t,rfl⟩:=r1
 exact ⟨some i,H1,I1,.int i t,q⟩
noncomputable def C7 (X:Cx) (r:V→Option Int→Option Int→Hp→VK→Prop):Prop :=
 ∀ (pins:List (Addr×Obj)) (s:Shared) (σ:St) (H:Hp) (x:V) (v vl vu:Value) (lo hi:Option Int) (sl:Addr) (Q:VK),Inv X pins σ H s→RelV x v→s.heap.IsSliceOf sl vl vu .none→IsPart vl lo→IsPart vu hi→r x lo hi H Q →
  ∃ T id,typeLookup (.type T) "__getitem__" = pure (some (.builtin id))∧s.TypeIs v T∧wpAny (model X.prog X.w) X.A (getItem v (.ref sl)) (EP X pins σ Q) X.xe s
theorem C7.or {r r':V→Option Int→Option Int→Hp→VK→Prop} (h:C7 X r) (h':C7 X r'):C7 X (fun x lo hi H Q=>r x lo hi H Q∨r' x lo hi H Q):=by
 intro pins s σ H x v vl vu lo hi sl Q I rx hs pl pu q
 rcases q with q | q
 · exact h pins s σ H x v vl vu lo hi sl Q I rx hs pl pu q
 · exact h' pins s σ H x v vl vu lo hi sl Q I rx hs pl pu q
noncomputable def tSl (r:V→Option Int→Option Int→Hp→VK→Prop) (te:TE) (tl th:TO):TE:=fun σ H Q=>te σ H fun x H1=>tl σ H1 fun l H2=>th σ H2 fun u H3=>r x l u H3 Q
theorem C8 {r:V→Option Int→Option Int→Hp→VK→Prop} (hr:C7 X r) (he:PE X e te) (hl:PO X lo tl) (hu:PO X hi th):PE X (.Subscript e (.Slice lo hi none p2) pos) (tSl r te tl th):=by
 intro pins s σ H Q I h
 refine Subscript_ (cb (he pins s σ H _ I h) fun v s1 ⟨x,H1,I1,r1,q1⟩=>?_)
 refine wpAny_Slice (cb (hl pins s1 σ H1 _ I1 q1) fun vl s2 ⟨l,H2,I2,pl,q2⟩=>cb (hu pins s2 σ H2 _ I2 q2) fun vu s3 ⟨u,H3,I3,pu,q3⟩=>?_)
 rw [evalPart_none]
 refine wpAny_pure ?_
 have I4:Inv X pins σ H3 { s3 with heap:=s3.heap.push { cls:=.type "slice",data:=.fields #[vl,vu,.none] } }:=I3.kept (t':=s3.toks) fun b ob q=>fF _ q
 obtain ⟨T,id,hT,ht,hg⟩:=hr pins { s3 with heap:=s3.heap.push { cls:=.type "slice",data:=.fields #[vl,vu,.none] } } σ H3 x v vl vu l u s3.heap.objs.size Q I4 r1 (Heap.IsSliceOf.new ..) pl pu q3
 show wpAny (model X.prog X.w) X.A (subscriptTail e (.Slice lo hi none p2) v (.ref s3.heap.objs.size)) (EP X pins σ Q) X.xe { s3 with heap:=s3.heap.push { cls:=.type "slice",data:=.fields #[vl,vu,.none] } }
 exact tail_any (ops:=[.ref s3.heap.objs.size,v]) ht hT hg (by with_unfolding_all rfl)
noncomputable def u5 (xs:List V) (lo hi:Option Int):List V:=(xs.drop (HT.dA xs.length 0 lo)).take (HT.dA xs.length xs.length hi - HT.dA xs.length 0 lo)
theorem m5 (xs:List V) (lo hi:Option Int):(u5 xs lo hi).length≤xs.length:=by
 unfold u5
 rw [CM,PU]
 omega
noncomputable def QB (K:PySem.W.Frag):V→Option Int→Option Int→Hp→VK→Prop:=fun x lo hi H Q=>∃ a xs,x = .ref a∧dZ K H a xs ∧
 ¬ (HT.dA xs.length 0 lo=0∧HT.dA xs.length xs.length hi=xs.length)∧∀ p,H p=none→Q (.ref p) (upd H p (.tup (u5 xs lo hi)))
theorem L7:C7 X (QB X.K):=by
 intro pins s σ H x v vl vu lo hi sl Q I rx hs pl pu h
 obtain ⟨a,xs,rfl,hx,hw,q⟩:=h
 cases rx
 obtain ⟨aP,r,ht,hz⟩:=I.tuple hx
 have hlen:aP.toArray.size=xs.length:=by rw [g8]; exact r.length.symm
 refine ⟨"tuple",_,V8.lookup,ht.typeIs,?_⟩
 refine HT.kK ht hs pl pu (by rw [hlen]; exact hw) ?_ (by rw [hlen]; exact hz)
 rw [hlen]
 refine ⟨.ref s.heap.objs.size,_,I.laid (t':=s.toks) (o:=.tup (u5 xs lo hi)) (fun b ob q=>fF _ q) (cA _) ?_,rfl,q _ (I.bV.fresh (cA _))⟩
 exact ⟨nI (m5 xs lo hi) hz,_,(r.drop (HT.dA xs.length 0 lo)).take (HT.dA xs.length xs.length hi - HT.dA xs.length 0 lo),IsTup.new _ _⟩
theorem Vals.n4 {xs:List V} {us:List Value} (r:Vals xs us):us=[]↔xs=[]:=by
 cases r with
 | _=>simp
end
noncomputable def qk (n:Nat) (i:Int):Option Nat:=if 0≤i then (if i < n then some i.toNat else none) else if -(n:Int)≤i then some (i+n).toNat else none
noncomputable def jH {α:Type} (xs:List α) (i:Int):Option α:=(qk xs.length i).bind fun j=>xs[j]?
theorem zz {n:Nat} {i:Int} {j:Nat} (h:qk n i=some j):seqIndex? i n=some j∧j < n∧-(n:Int)≤i∧i < n:=by
 unfold qk at h
 by_cases h0:0≤i
 · rw [if_pos h0] at h
   by_cases h1:i < n
   · rw [if_pos h1] at h
     have e:i.toNat=j:=Option.some.inj h
     exact ⟨by rw [seqIndex_of h0 h1,e],by omega,by omega,h1⟩
   · rw [if_neg h1] at h; cases h
 · rw [if_neg h0] at h
   by_cases h1 : -(n:Int)≤i
   · rw [if_pos h1] at h
     have e:(i+n).toNat=j:=Option.some.inj h
     exact ⟨by rw [seqIndex_neg (by omega) h1,e],by omega,h1,by omega⟩
   · rw [if_neg h1] at h; cases h
theorem sG {α:Type} {xs:List α} {i:Int} {v:α} (h:jH xs i=some v):∃ j,seqIndex? i xs.length=some j∧xs[j]?=some v∧j < xs.length∧-(xs.length:Int)≤i∧i < xs.length:=by
 unfold jH at h
 cases e:qk xs.length i with
 | none=>rw [e] at h; cases h
 | some j =>
   rw [e] at h
   obtain ⟨h1,h2,h3,h4⟩:=zz e
   exact ⟨j,h1,h,h2,h3,h4⟩
theorem aq {α:Type} {xs:List α} {j:Nat} {v:α} (h:xs[j]?=some v):jH xs (j:Int)=some v:=by
 have hj:j < xs.length:=(cn.mp h).1
 have e:qk xs.length (j:Int)=some j:=by
  unfold qk
  rw [if_pos (by omega),if_pos (by omega)]; simp
 unfold jH; rw [e]; exact h
theorem kL {α:Type} (xs:List α) (v:α):jH (xs ++ [v]) (-1)=some v:=by
 have hl:(xs ++ [v]).length=xs.length+1:=by simp
 have e:qk (xs ++ [v]).length (-1)=some xs.length:=by
  unfold qk
  rw [hl,if_neg (by decide),if_pos (by omega)]
  congr 1
  omega
 unfold jH
 rw [e]
 show (xs ++ [v])[xs.length]?=some v
 simp
noncomputable def zA (b:Expr):Prop:=∀ o i,subscripted b false o i=operate [o,i] (getItem o i)
noncomputable def Hv (X:Cx) (r:R2):Prop :=
 ∀ (value slice:Expr) (pins:List (Addr×Obj)) (s:Shared) (σ:St) (H:Hp) (x y:V) (v u:Value) (Q:VK),Inv X pins σ H s→RelV x v→RelV y u→r x y H Q →
  subscripted slice false v u=operate [v,u] (getItem v u)→wpAny (model X.prog X.w) X.A (subscriptTail value slice v u) (EP X pins σ Q) X.xe s
noncomputable def Hw (X:Cx) (id:String) (r:V→List V→Hp→VK→Prop):Prop :=
 ∀ (pins:List (Addr×Obj)) (s:Shared) (σ:St) (H:Hp) (x:V) (xs:List V) (v:Value) (us:List Value) (Q:VK),Inv X pins σ H s→RelV x v→Vals xs us→r x xs H Q →
  wpAny (model X.prog X.w) X.A (call (.builtin id) (v :: us)) (EP X pins σ Q) X.xe s
section
variable {X:Cx} {a b:Expr} {ta tb:TE} {pos:Pos}
theorem Hv.or {r r':R2} (h:Hv X r) (h':Hv X r'):Hv X (fun x y H Q=>r x y H Q∨r' x y H Q):=by
 intro value slice pins s σ H x y v u Q I rx ry q hs
 rcases q with q | q
 · exact h value slice pins s σ H x y v u Q I rx ry q hs
 · exact h' value slice pins s σ H x y v u Q I rx ry q hs
theorem QC {r:R2} (hr:Hv X r) (ha:PE X a ta) (hb:PE X b tb) (hs:zA b):PE X (.Subscript a b pos) (Qk r ta tb):=by
 intro pins s σ H Q I h
 exact Subscript_ (LM ha hb I h fun v u s2 x y H2 I2 rx ry q=>hr a b pins s2 σ H2 x y v u Q I2 rx ry q (hs _ _))
noncomputable def QD (K:PySem.W.Frag):R2:=fun x y H Q=>∃ p xs i v,x = .ref p∧y = .int i∧gy K H p xs∧jH xs i=some v∧Q v H
noncomputable def QE (K:PySem.W.Frag):R2:=fun x y H Q=>∃ p xs i v,x = .ref p∧y = .int i∧dZ K H p xs∧jH xs i=some v∧Q v H
noncomputable def QF:R2:=fun x y H Q=>∃ z i c,x = .str z∧y = .int i∧z.length≤sizeLine∧jH z.cps.toList i=some c∧Q (.str ⟨#[c]⟩) H
theorem Hx:Hv X (QD X.K):=by
 intro value slice pins s σ H x y v u Q I rx ry h hs
 obtain ⟨p,xs,i,z,rfl,rfl,hq,he,q⟩:=h
 cases rx
 obtain ⟨t,rfl⟩:=ry
 obtain ⟨aP,r,pl,hz⟩:=I.list hq
 obtain ⟨j,h1,h2,h3,h4,h5⟩:=sG he
 obtain ⟨w,ew,rw'⟩:=r.get h2
 have hl:=r.length
 have hn:=l0
 have fin:EP X pins σ Q w s:=⟨z,H,I,rw',q⟩
 by_cases h0:0≤i
 · have hj:i.toNat=j:=by
    rw [seqIndex_of h0 h5] at h1
    exact Option.some.inj h1
   exact item_listR pl.isList h0 (by omega) (by rw [hj]; simpa using ew) fin hs
 · have hj:(i+(aP.toArray.size:Int)).toNat=j:=by
    rw [seqIndex_neg (by omega) h4] at h1
    rw [g8,← hl]
    exact Option.some.inj h1
   exact subscriptTail_builtinR (x:=w) pl.isList.typeIs slot_list_getitem.lookup
    (wpAny_getItem_list_neg (Q:=fun r s'=>r=w∧EP X pins σ Q r s') pl.isList (by omega) (by rw [g8] <;> omega) (by omega) (by rw [hj]; simpa using ew) ⟨rfl,fin⟩) hs
theorem L8:Hv X (QE X.K):=by
 intro value slice pins s σ H x y v u Q I rx ry h hs
 obtain ⟨p,xs,i,z,rfl,rfl,hq,he,q⟩:=h
 cases rx
 obtain ⟨t,rfl⟩:=ry
 obtain ⟨aP,r,pl,hz⟩:=I.tuple hq
 obtain ⟨j,h1,h2,h3,h4,h5⟩:=sG he
 obtain ⟨w,ew,rw'⟩:=r.get h2
 have hl:=r.length
 have hn:=l0
 have fin:EP X pins σ Q w s:=⟨z,H,I,rw',q⟩
 exact subscriptTail_builtinR (x:=w) pl.typeIs slot_tuple_getitem.lookup
  (getItem_tuple (j:=j) (Q:=fun r s'=>r=w∧EP X pins σ Q r s') pl (by omega) (by omega) (by rw [g8,← hl]; exact h1) (by simpa using ew) ⟨rfl,fin⟩) hs
theorem L9:Hv X QF:=by
 intro value slice pins s σ H x y v u Q I rx ry h hs
 obtain ⟨z,i,c,rfl,rfl,hz,he,q⟩:=h
 obtain ⟨t,rfl⟩:=rx
 obtain ⟨t',rfl⟩:=ry
 obtain ⟨j,h1,h2,h3,h4,h5⟩:=sG he
 have hl:z.cps.toList.length=z.length:=by simp [Str.length]
 rw [hl] at h1 h4 h5
 have hn:=l0
 exact tail_any (typeIs_str s z t) slot_str_getitem.lookup (getItem_str (c:=c) (by
  have e1:decide (i < -(2 ^ 63:Int))=false:=decide_eq_false (by omega)
  have e2:decide (i ≥ 2 ^ 63)=false:=decide_eq_false (by omega)
  rw [e1,e2,Bool.or_false]) (by rw [h1]; simpa using h2) ⟨.str ⟨#[c]⟩,H,I.tok _,⟨_,rfl⟩,q⟩) hs
noncomputable def ZU (K:PySem.W.Frag):R2:=fun x y H Q=>QD K x y H Q∨QE K x y H Q∨QF x y H Q
theorem L_:Hv X (ZU X.K):=Hx.or (L8.or L9)
theorem x5 (aP:List Value) (n j:Nat) (u:Value):Obj.mapSeq (·.setIfInBounds j u) { cls:=.type "list",data:=.seq aP.toArray n }={ cls:=.type "list",data:=.seq (aP.set j u).toArray n }:=by
 simp [Obj.mapSeq]
theorem Inv.lst {pins:List (Addr×Obj)} {σ:St} {H:Hp} {s:Shared} {p:Addr} {xs:List V} (I:Inv X pins σ H s) (h:H p=some (.lst xs)) :
  ∃ (aP:List Value) (n:Nat),Vals xs aP∧s.heap.get? p=some { cls:=.type "list",data:=.seq aP.toArray n }∧xs.length≤sizeLine:=by
 obtain ⟨z,aP,n,r,e⟩:=I.bV p _ h
 exact ⟨aP,n,r,e,z⟩
theorem Inv.L' {pins:List (Addr×Obj)} {σ:St} {H:Hp} {s:Shared} {p:Addr} {xs ys:List V} {aP its':List Value} {n n':Nat} {f:Obj→Obj} (I:Inv X pins σ H s) (h:H p=some (.lst xs))
  (ho:s.heap.get? p=some { cls:=.type "list",data:=.seq aP.toArray n }) (hf:f { cls:=.type "list",data:=.seq aP.toArray n }={ cls:=.type "list",data:=.seq its'.toArray n' }) (r:Vals ys its') (hz:ys.length≤sizeLine) (t:Nat) :
  Inv X pins σ (upd H p (.lst ys)) { s with heap:=s.heap.update p f,toks:=t }:=by
 have e:(s.heap.update p f).get? p=some { cls:=.type "list",data:=.seq its'.toArray n' }:=by
  rw [Heap.get?_update_self f ho (by rw [hf] <;> rfl),hf]
 refine I.write (x:=p) (e:=p) (by rw [h]; trivial) (.inl rfl) (fun b u hb q=>(Heap.get?_update_other _ _ (Ne.symm hb)).trans q) ⟨_,e⟩ ?_
 exact ⟨hz,its',n',r,e⟩
noncomputable def QG:V→V→V→Hp→(Hp→Prop)→Prop:=fun o i v H Q=>∃ p xs k j,o = .ref p∧i = .int k∧H p=some (.lst xs)∧qk xs.length k=some j∧Q (upd H p (.lst (xs.set j v)))
theorem set_list:Qc X QG:=by
 intro pins s σ H o i v ov iv u Q I ro ri rv h
 obtain ⟨p,xs,k,j,rfl,rfl,hp,hj,q⟩:=h
 cases ro
 obtain ⟨t,rfl⟩:=ri
 obtain ⟨aP,n,r,ho,hz⟩:=I.lst hp
 obtain ⟨h1,h2,h3,h4⟩:=zz hj
 have hl:=r.length
 have hn:=l0
 have I':Inv X pins σ (upd H p (.lst (xs.set j v))) { s with heap:=s.heap.update p (Obj.mapSeq (·.setIfInBounds j u)) } :=
  I.L' hp ho (x5 aP n j u) (r.set rv j) (by rw [G2]; exact hz) s.toks
 by_cases h0:0≤k
 · have hk:k.toNat=j:=by
    rw [seqIndex_of h0 h4] at h1
    exact Option.some.inj h1
   exact PySem.W.ki_setAt ho h0 (by omega) (by rw [g8,← hl]; exact h4) (by rw [hk]; exact ⟨_,I',q⟩)
 · have hk:(k+(aP.toArray.size:Int)).toNat=j:=by
    rw [seqIndex_neg (by omega) h3] at h1
    rw [g8,← hl]
    exact Option.some.inj h1
   exact PySem.W.ki_setBack ho (by omega) (by rw [g8,← hl]; exact h3) (by omega) (by rw [hk]; exact ⟨_,I',q⟩)
theorem sH (lo hi:Option Int) (n:Nat):(sliceBounds lo hi none n).1=((HT.dA n 0 lo:Nat):Int)∧(sliceBounds lo hi none n).2.1=((HT.dA n n hi:Nat):Int)∧(sliceBounds lo hi none n).2.2=1:=by
 refine ⟨?_,?_,rfl⟩
 · cases lo with
   | none=>simp [sliceBounds,HT.dA]
   | some i =>
     simp only [sliceBounds,HT.dA,Option.getD_none,show (1:Int) > 0 by decide,if_true]
     by_cases h:i < 0
     · simp only [h,if_true] <;> omega
     · simp only [h,if_false] <;> omega
 · cases hi with
   | none=>simp [sliceBounds,HT.dA]
   | some i =>
     simp only [sliceBounds,HT.dA,Option.getD_none,show (1:Int) > 0 by decide,if_true]
     by_cases h:i < 0
     · simp only [h,if_true] <;> omega
     · simp only [h,if_false] <;> omega
theorem ql (aP:List Value) (lo hi:Option Int):slicePick aP.toArray lo hi none=((aP.drop (HT.dA aP.length 0 lo)).take (HT.dA aP.length aP.length hi - HT.dA aP.length 0 lo)).toArray:=by
 obtain ⟨h1,h2,h3⟩:=sH lo hi aP.toArray.size
 unfold slicePick
 rw [h1,h2,h3]
 simp only [sliceRange_one,pick_run,g8] <;> rfl
noncomputable def QH (K:PySem.W.Frag):V→Option Int→Option Int→Hp→VK→Prop:=fun x lo hi H Q=>∃ a xs,x = .ref a∧gy K H a xs∧∀ p,H p=none→Q (.ref p) (upd H p (.lst (u5 xs lo hi)))
theorem Hy:C7 X (QH X.K):=by
 intro pins s σ H x v vl vu lo hi sl Q I rx hs pl pu h
 obtain ⟨a,xs,rfl,hx,q⟩:=h
 cases rx
 obtain ⟨aP,r,ht,hz⟩:=I.list hx
 have hlen:=r.length
 refine ⟨"list",_,slot_list_getitem.lookup,ht.isList.typeIs,?_⟩
 refine wpAny_getItem_list_slice ht.isList hs pl pu .none (by simp) ?_ (by rw [g8] <;> omega)
 rw [ql,← hlen]
 refine ⟨.ref s.heap.objs.size,_,I.laid (t':=s.toks) (o:=.lst (u5 xs lo hi)) (fun b ob q=>fF _ q) (cA _) ?_,rfl,q _ (I.bV.fresh (cA _))⟩
 exact ⟨nI (m5 xs lo hi) hz,_,0,(r.drop (HT.dA xs.length 0 lo)).take (HT.dA xs.length xs.length hi - HT.dA xs.length 0 lo),mZ _ rfl⟩
noncomputable def ji:V→Bool
 | .bb=>true
 | .bl _=>true
 | .int _=>true
 | .str _=>true
 | _=>false
noncomputable def GD:V→V→Bool
 | .bb,.bb=>true
 | .bl a,.bl b=>a == b
 | .bl a,.int b=>(if a then 1 else 0) == b
 | .int a,.bl b=>a == (if b then 1 else 0)
 | .int a,.int b=>a == b
 | .str a,.str b=>a == b
 | _,_=>false
theorem Ma {A:Around} {s:Shared} {y x:V} {u v:Value} (ry:RelV y u) (rx:RelV x v) (fy:ji y=true) (fx:ji x=true):SeqAt.EqAt A s u v (GD y x):=by
 cases y with
 | bb =>
   cases ry
   cases x with
   | bb=>cases rx; exact SeqAt.EqAt.same _
   | bl b=>cases rx; exact SeqAt.EqAt.none_bool b
   | int b=>obtain ⟨t,rfl⟩:=rx; exact SeqAt.EqAt.none_int b t
   | str b=>obtain ⟨t,rfl⟩:=rx; exact SeqAt.EqAt.none_str b t
   | _=>exact absurd (show false=true from fx) c7
 | bl a =>
   cases ry
   cases x with
   | bb=>cases rx; exact SeqAt.EqAt.bool_none a
   | bl b=>cases rx; exact SeqAt.EqAt.bool_bool a b
   | int b=>obtain ⟨t,rfl⟩:=rx; exact SeqAt.EqAt.bool_int a b t
   | str b=>obtain ⟨t,rfl⟩:=rx; exact SeqAt.EqAt.bool_str a b t
   | _=>exact absurd (show false=true from fx) c7
 | int a =>
   obtain ⟨t',rfl⟩:=ry
   cases x with
   | bb=>cases rx; exact SeqAt.EqAt.int_none a t'
   | bl b=>cases rx; exact SeqAt.EqAt.int_bool a t' b
   | int b=>obtain ⟨t,rfl⟩:=rx; exact SeqAt.EqAt.int_int a t' b t
   | str b=>obtain ⟨t,rfl⟩:=rx; exact SeqAt.EqAt.int_str a t' b t
   | _=>exact absurd (show false=true from fx) c7
 | str a =>
   obtain ⟨t',rfl⟩:=ry
   cases x with
   | bb=>cases rx; exact SeqAt.EqAt.str_none a t'
   | bl b=>cases rx; exact SeqAt.EqAt.str_bool a t' b
   | int b=>obtain ⟨t,rfl⟩:=rx; exact SeqAt.EqAt.str_int a t' b t
   | str b=>obtain ⟨t,rfl⟩:=rx; exact SeqAt.EqAt.str_str a t' b t
   | _=>exact absurd (show false=true from fx) c7
 | _=>exact absurd (show false=true from fy) c7
noncomputable def x6 (x:V) (u:Value):Bool:=match u with
 | .none=>GD .bb x
 | .bool b=>GD (.bl b) x
 | .int i _=>GD (.int i) x
 | .str z _=>GD (.str z) x
 | _=>false
theorem C9 {x y:V} {u:Value} (r:RelV y u) (f:ji y=true):x6 x u=GD y x:=by
 cases y with
 | bb=>cases r; rfl
 | bl b=>cases r; rfl
 | int i=>obtain ⟨t,rfl⟩:=r; rfl
 | str z=>obtain ⟨t,rfl⟩:=r; rfl
 | _=>exact absurd (show false=true from f) c7
theorem kM {x:V}:∀ {xs:List V} {us:List Value},Vals xs us→xs.all ji=true→us.any (x6 x)=xs.any fun y=>GD y x
 | _,_,.nil,_=>rfl
 | y :: xs,u :: us,.cons r t,f=>by
   rw [xI,kB] at f
   rw [O3,O3,C9 r f.1,kM t f.2]
theorem jj {A:Around} {s:Shared} {x:V} {v:Value} (rx:RelV x v) (fx:ji x=true):∀ {xs:List V} {us:List Value},Vals xs us→xs.all ji=true→∀ u∈us,SeqAt.EqAt A s u v (x6 x u)
 | _,_,.nil,_=>fun u hu=>by cases hu
 | y :: xs,u :: us,.cons r t,f=>fun u' hu=>by
   rw [xI,kB] at f
   rcases cZ.mp hu with rfl | hu
   · rw [C9 r f.1]; exact Ma r rx f.1 fx
   · exact jj rx fx t f.2 u' hu
noncomputable def Vh (x:V) (xs:List V):Bool:=xs.any fun y=>GD y x
noncomputable def WV (K:PySem.W.Frag) (neg:Bool):R2:=fun x y H Q=>∃ p xs,y = .ref p∧(gy K H p xs∨dZ K H p xs)∧ji x=true∧xs.all ji=true∧Q (.bl (if neg then !Vh x xs else Vh x xs)) H
theorem AQ:eY X (compareOp .In) (WV X.K false):=by
 intro pins s σ H x y v u Q I rx ry h
 obtain ⟨p,xs,rfl,hq,fx,fs,q⟩:=h
 cases ry
 rcases hq with hq | hq
 · obtain ⟨aP,r,pl,hz⟩:=I.list hq
   refine SeqAt.in_listAt (x6 x) pl.isList (fun w hw=>jj rx fx r fs w (by simpa using hw)) ⟨.bl _,H,I,rfl,?_⟩
   rw [show aP.toArray.any (x6 x)=aP.any (x6 x) by simp,kM r fs]
   exact q
 · obtain ⟨aP,r,pl,hz⟩:=I.tuple hq
   refine SeqAt.in_tupleAt (x6 x) pl (fun w hw=>jj rx fx r fs w (by simpa using hw)) ⟨.bl _,H,I,rfl,?_⟩
   rw [show aP.toArray.any (x6 x)=aP.any (x6 x) by simp,kM r fs]
   exact q
theorem sI:eY X (compareOp .NotIn) (WV X.K true):=by
 intro pins s σ H x y v u Q I rx ry h
 obtain ⟨p,xs,rfl,hq,fx,fs,q⟩:=h
 cases ry
 rcases hq with hq | hq
 · obtain ⟨aP,r,pl,hz⟩:=I.list hq
   refine SeqAt.notIn_listAt (x6 x) pl.isList (fun w hw=>jj rx fx r fs w (by simpa using hw)) ⟨.bl _,H,I,rfl,?_⟩
   rw [show aP.toArray.any (x6 x)=aP.any (x6 x) by simp,kM r fs]
   exact q
 · obtain ⟨aP,r,pl,hz⟩:=I.tuple hq
   refine SeqAt.notIn_tupleAt (x6 x) pl (fun w hw=>jj rx fx r fs w (by simpa using hw)) ⟨.bl _,H,I,rfl,?_⟩
   rw [show aP.toArray.any (x6 x)=aP.any (x6 x) by simp,kM r fs]
   exact q
theorem sJ:eY X (compareOp .NotIn) (fun x y H Q=>∃ i j,x = .str i∧y = .str j∧Q (.bl (!(!(Builtin.Str.occurrences j i 0 j.length 1).isEmpty))) H):=by
 intro pins s σ H x y v u Q I rx ry h
 obtain ⟨i,j,rfl,rfl,q⟩:=h
 obtain ⟨t,rfl⟩:=rx
 obtain ⟨t',rfl⟩:=ry
 exact notIn_str ⟨.bl _,H,I,rfl,q⟩
theorem sL:c8 X (.builtin "len") (fun xs H Q=>∃ p ys,xs=[.ref p]∧(gy X.K H p ys∨dZ X.K H p ys)∧Q (.int ys.length) H):=by
 intro pins s σ H xs us Q I r h
 obtain ⟨p,ys,rfl,hq,q⟩:=h
 obtain ⟨u,rfl,rx⟩:=vals1 r
 cases rx
 have hn:=l0
 rcases hq with hq | hq
 · obtain ⟨aP,r',pl,hz⟩:=I.list hq
   have hlen:=r'.length
   exact Calls.call_len_list pl.isList (by simp only [g8] <;> omega) ⟨.int ys.length,H,I.tok _,⟨s.toks+1,by rw [g8,hlen]⟩,q⟩
 · obtain ⟨aP,r',pl,hz⟩:=I.tuple hq
   have hlen:=r'.length
   exact len_tuple pl (by simp only [g8] <;> omega) ⟨.int ys.length,H,I.tok _,⟨s.toks+1,by rw [g8,hlen]⟩,q⟩
theorem sM:c8 X (.builtin "len") (fun xs H Q=>∃ z,xs=[.str z]∧z.length≤sizeLine∧Q (.int z.length) H):=by
 intro pins s σ H xs us Q I r h
 obtain ⟨z,rfl,hz,q⟩:=h
 obtain ⟨u,rfl,t,rfl⟩:=vals1 r
 have hn:=l0
 exact len_str (by omega) ⟨.int z.length,H,I.tok _,⟨_,rfl⟩,q⟩
theorem c8.or {f:Value} {r r':List V→Hp→VK→Prop} (h:c8 X f r) (h':c8 X f r'):c8 X f (fun xs H Q=>r xs H Q∨r' xs H Q):=by
 intro pins s σ H xs us Q I rs q
 rcases q with q | q
 · exact h pins s σ H xs us Q I rs q
 · exact h' pins s σ H xs us Q I rs q
theorem iB:c8 X (.type "list") (fun xs H Q=>∃ p ys,xs=[.ref p]∧(gy X.K H p ys∨dZ X.K H p ys)∧∀ l,H l=none→Q (.ref l) (upd H l (.lst ys))):=by
 intro pins s σ H xs us Q I r h
 obtain ⟨p,ys,rfl,hq,q⟩:=h
 obtain ⟨u,rfl,rx⟩:=vals1 r
 cases rx
 have fin:∀ (aP:List Value),Vals ys aP→ys.length≤sizeLine→∀ (h':Heap) (c':Nat),(∀ b o',s.heap.get? b=some o'→h'.get? b=some o') →
   h'.get? s.heap.objs.size=some { cls:=.type "list",dict:=none,data:=.seq aP.toArray c',slots:=#[] }→EP X pins σ Q (.ref s.heap.objs.size) { s with heap:=h' }:=fun aP r' hz h' c' kp e =>
  ⟨.ref s.heap.objs.size,_,I.laid (t':=s.toks) kp (cA _) (show bX X.prog X.w _ h' _ (.lst ys) from ⟨hz,aP,c',r',e⟩),rfl,q _ (I.bV.fresh (cA _))⟩
 rcases hq with hq | hq
 · obtain ⟨aP,r',pl,hz⟩:=I.list hq
   have hlen:=r'.length
   obtain ⟨o,ho,hc,n,hd⟩:=pl.isList
   exact call_list_seq p (.inl rfl) ho hc hd (fun h' c' kp e=>fin aP r' hz h' c' kp e) (by simp only [g8] <;> omega)
 · obtain ⟨aP,r',pl,hz⟩:=I.tuple hq
   have hlen:=r'.length
   obtain ⟨o,ho,hc,n,hd⟩:=pl
   exact call_list_seq p (.inr rfl) ho hc hd (fun h' c' kp e=>fin aP r' hz h' c' kp e) (by simp only [g8] <;> omega)
theorem jX:c8 X (.type "tuple") (fun xs H Q=>∃ p ys,xs=[.ref p]∧((gy X.K H p ys∧∀ l,H l=none→Q (.ref l) (upd H l (.tup ys)))∨(dZ X.K H p ys∧Q (.ref p) H))):=by
 intro pins s σ H xs us Q I r h
 obtain ⟨p,ys,rfl,h⟩:=h
 obtain ⟨u,rfl,rx⟩:=vals1 r
 cases rx
 rcases h with ⟨hq,q⟩ | ⟨hq,q⟩
 · obtain ⟨aP,r',pl,hz⟩:=I.list hq
   have hlen:=r'.length
   refine call_tuple_list pl.isList (fun h' kp=>?_) (by simp only [g8] <;> omega)
   have I1:Inv X pins σ H { s with heap:=h' }:=I.kept (t':=s.toks) kp
   have I2:Inv X pins σ (upd H h'.objs.size (.tup ys)) { s with heap:=h'.push { cls:=.type "tuple",data:=.seq aP.toArray } } :=
    I1.laid (t':=s.toks) (fun b o e=>fF _ e) (cA _) (show bX X.prog X.w _ _ _ (.tup ys) from ⟨hz,aP,r',IsTup.new _ _⟩)
   exact ⟨.ref h'.objs.size,_,I2,rfl,q _ (I1.bV.fresh (cA _))⟩
 · obtain ⟨aP,r',pl,hz⟩:=I.tuple hq
   exact call_tuple_same pl ⟨.ref p,H,I,rfl,q⟩
noncomputable def WW (K:PySem.W.Frag) (T:String) (x:V) (H:Hp):Prop:=match x with
 | .str _=>T="str"
 | .int _=>T="int"
 | .ref p=>(T="list"∧∃ xs,gy K H p xs)∨(T="tuple"∧∃ o,K.lookup p=some o∧o.cls = .type "tuple"∧o.dict=none) ∨
    (T="dict"∧((∃ bg,H p=some (.dK bg))∨∃ bg,H p=some (.dT bg)))∨(T="set"∧∃ S n,H p=some (.set S n))
 | _=>False
theorem C_ {pins:List (Addr×Obj)} {σ:St} {H:Hp} {s:Shared} {T:String} {x:V} {v:Value} (I:Inv X pins σ H s) (r:RelV x v) (ty:WW X.K T x H) :
  s.TypeIs v T∧∀ a,v = .ref a→∃ ob,s.heap.get? a=some ob∧ob.dict=none:=by
 cases x with
 | str z =>
   obtain ⟨t,rfl⟩:=r
   cases (show T="str" from ty)
   exact ⟨typeIs_str s z t,fun _ e=>nomatch e⟩
 | int i =>
   obtain ⟨t,rfl⟩:=r
   cases (show T="int" from ty)
   exact ⟨typeIs_int s i t,fun _ e=>nomatch e⟩
 | ref p =>
   cases r
   rcases ty with ⟨rfl,xs,hq⟩ | ⟨rfl,o,hk,hc,hd⟩ | ⟨rfl,hk⟩ | ⟨rfl,S,n,hk⟩
   · obtain ⟨aP,_,pl,_⟩:=I.list hq
     refine ⟨pl.isList.typeIs,fun a e=>?_⟩
     cases e
     obtain ⟨o,n,e,c,hd,_⟩:=pl
     exact ⟨o,e,hd⟩
   · refine ⟨⟨o,I.rj p o hk,hc⟩,fun a e=>?_⟩
     cases e
     exact ⟨o,I.rj _ o hk,hd⟩
   · have z:∃ o,s.heap.get? p=some o∧o.ExactDict:=by
      rcases hk with ⟨bg,hk⟩ | ⟨bg,hk⟩
      · obtain ⟨_,_,_,_,o,_,_,e,ex,_⟩:=I.bV p _ hk
        exact ⟨o,e,ex⟩
      · obtain ⟨_,_,_,_,o,_,_,e,ex,_⟩:=I.bV p _ hk
        exact ⟨o,e,ex⟩
     obtain ⟨o,e,ex⟩:=z
     refine ⟨⟨o,e,ex.1⟩,fun a e2=>?_⟩
     cases e2
     exact ⟨o,e,ex.2.1⟩
   · obtain ⟨o,_,_,_,e,ex,_⟩:=I.bV p _ hk
     refine ⟨⟨o,e,ex.1⟩,fun a e2=>?_⟩
     cases e2
     exact ⟨o,e,ex.2.1⟩
 | _=>exact False.elim ty
noncomputable def WX (K:PySem.W.Frag) (T:String) (r:V→List V→Hp→VK→Prop) (to:TE):TE:=fun σ H Q=>to σ H fun x H1=>WW K T x H1∧r x [] H1 Q
noncomputable def tBM (K:PySem.W.Frag) (T:String) (r:V→List V→Hp→VK→Prop) (to:TE) (t:TA):TE:=fun σ H Q=>to σ H fun x H1=>WW K T x H1∧t σ H1 fun xs H2=>r x xs H2 Q
variable {o e:Expr} {es:List Expr} {to:TE} {t:TA} {name:Str} {apos bj:Pos} {T id:String} {r:V→List V→Hp→VK→Prop}
theorem Dd (pa:PlainAttrs T) (slot:Slot T name id) (Mb:typeOf (.builtin id)=pure (.type "method_descriptor")) (hm:Hw X id r) (ho:PE X o to)
  (dC:attributeBase o name X.env (eval o X.env)=eval o X.env:=by rfl) (dD:(apos.endLine == bj.line)=true:=by rfl):PE X (.Call (.Attribute o name apos) [] [] bj) (WX X.K T r to):=by
 intro pins s σ H Q I h
 refine wpAny_Call_method0_late dC dD (cb (ho pins s σ H _ I h) fun v s1 ⟨x,H1,I1,r1,ty,q1⟩=>?_)
 obtain ⟨h1,h2⟩:=C_ I1 r1 ty
 exact ⟨T,id,pa,slot,Mb,h1,h2,U1 rfl (PySem.evalArgs_none (hm pins s1 σ H1 x [] v [] Q I1 r1 .nil q1))⟩
theorem rC (pa:PlainAttrs T) (slot:Slot T name id) (Mb:typeOf (.builtin id)=pure (.type "method_descriptor")) (hm:Hw X id r) (ho:PE X o to) (ha:PA X (e :: es) t)
  (dC:attributeBase o name X.env (eval o X.env)=eval o X.env:=by rfl)
  (l_:((backTo bj (starEach (e :: es) X.env)).all (fun x=>!x.1) && (backToKw bj (keywordEach [] X.env)).all (fun x=>x.1.isSome)
    && decide ((e :: es).length+([]:List Keyword).length+(if ([]:List Keyword).isEmpty then 0 else 1) < 30))=true:=by rfl)
  (dD:(apos.endLine == bj.line)=true:=by rfl) (hs:starEach (e :: es) X.env=(false,eval e X.env) :: starEach es X.env:=by rfl) (d7:(backTo bj (starEach es X.env)).any (·.1)=false:=by rfl) :
  PE X (.Call (.Attribute o name apos) (e :: es) [] bj) (tBM X.K T r to t):=by
 intro pins s σ H Q I h
 refine wpAny_Call_method_late dC l_ dD rfl (cb (ho pins s σ H _ I h) fun v s1 ⟨x,H1,I1,r1,ty,q1⟩=>?_)
 obtain ⟨h1,h2⟩:=C_ I1 r1 ty
 refine ⟨T,id,pa,slot,Mb,h1,h2,?_⟩
 have hA:=ha bj pins s1 σ H1 _ I1 q1
 rw [hs] at hA ⊢
 refine U1 (by show (false || (backTo bj (starEach es X.env)).any (·.1))=false; rw [d7] <;> rfl) (Calls.evalArgs_plain ?_)
 exact cb hA fun us s2 ⟨vs,H2,I2,r2,q2⟩=>hm pins s2 σ H2 x vs v us Q I2 r1 r2 q2
end
noncomputable def WY (X:Cx) (id:String) (r:V→List V→Hp→VK→Prop):Prop :=
 ∀ (pins:List (Addr×Obj)) (s:Shared) (σ:St) (H:Hp) (x:V) (xs:List V) (v:Value) (us:List Value) (Q:VK),Inv X pins σ H s→RelV x v→Vals xs us→r x xs H Q →
  wpAny (model X.prog X.w) X.A (call (.builtin id) (v :: us)) (EP X pins σ Q) X.xe s
theorem Vals.one:∀ {x:V} {us:List Value},Vals [x] us→∃ u,us=[u]∧RelV x u
 | _,_,.cons r .nil=>⟨_,rfl,r⟩
theorem Vals.zero:∀ {us:List Value},Vals [] us→us=[]
 | _,.nil=>rfl
theorem Vals.dropLast {xs:List V} {us:List Value} (h:Vals xs us):Vals xs.dropLast us.dropLast:=by
 induction h with
 | nil=>exact .nil
 | cons r t ih =>
   cases t with
   | nil=>exact .nil
   | cons q t'=>exact .cons r ih
theorem Vals.rep {xs:List V} {us:List Value} (h:Vals xs us):∀ k:Nat,Vals (List.replicate k xs).flatten (List.replicate k us).flatten
 | 0=>.nil
 | k+1=>by
   rw [ot,ot,CK,CK]
   exact Vals.append h (Vals.rep h k)
theorem x8 {α:Type} (l:List α):l.eraseIdx (l.length - 1)=l.dropLast:=by
 induction l with
 | nil=>rfl
 | cons a r ih =>
   cases r with
   | nil=>rfl
   | cons b r =>
     have e:(a :: b :: r).length - 1=((b :: r).length - 1)+1:=by
      have h1:(a :: b :: r).length=r.length+2:=rfl
      have h2:(b :: r).length=r.length+1:=rfl
      omega
     rw [e,List.eraseIdx_cons_succ,ih]
     all_goals rfl
theorem foldl_rep (aP:List Value):∀ (k:Nat) (acc:List Value),
  List.foldl (fun x1 x2=>x1 ++ x2) acc.toArray (List.replicate k aP.toArray)=(acc ++ (List.replicate k aP).flatten).toArray
 | 0,acc=>by simp
 | k+1,acc=>by
   have e:acc.toArray ++ aP.toArray=(acc ++ aP).toArray:=by simp
   have e2:(acc ++ aP) ++ (List.replicate k aP).flatten=acc ++ (List.replicate (k+1) aP).flatten:=by
    rw [ot,CK,U']
   rw [← e2,← foldl_rep aP k (acc ++ aP),← e,ot,List.foldl_cons]
section
variable {X:Cx} {pins:List (Addr×Obj)} {σ:St} {H:Hp} {s:Shared} {l b:Addr} {xs ys zs:List V}
theorem Inv.Mc {aP its':List Value} {n:Nat} {f:Array Value→Array Value} {t':Nat} (I:Inv X pins σ H s) (hH:H l=some (.lst xs))
  (e:s.heap.get? l=some { cls:=.type "list",data:=.seq aP.toArray n }) (hf:f aP.toArray=its'.toArray) (hv:Vals ys its') (hz:ys.length≤sizeLine) :
  Inv X pins σ (upd H l (.lst ys)) { s with heap:=s.heap.update l (Obj.mapSeq f),toks:=t' }:=by
 have q:=PySem.IsL.update e f
 rw [hf] at q
 refine I.write (x:=l) (e:=l) (by rw [hH]; exact trivial) (.inl rfl) (fun b' u hb hu=>(Heap.get?_update_other s.heap (Obj.mapSeq f) (Ne.symm hb)).trans hu) ⟨_,q⟩ ?_
 exact ⟨hz,its',_,hv,q⟩
theorem Inv.QI {aP:List Value} {t':Nat} (I:Inv X pins σ H s) (hv:Vals ys aP) (hz:ys.length≤sizeLine) :
  Inv X pins σ (upd H s.heap.objs.size (.lst ys)) { s with heap:=s.heap.push { cls:=.type "list",data:=.seq aP.toArray },toks:=t' } :=
 I.laid (fun _ _ q=>fF _ q) (cA _) ⟨hz,aP,0,hv,mZ _ rfl⟩
theorem Inv.fresh (I:Inv X pins σ H s):H s.heap.objs.size=none:=I.bV.fresh (cA _)
theorem Inv.De (I:Inv X pins σ H s) (hH:H l=some (.lst xs)):xs.length≤sizeLine∧∃ (aP:List Value) (n:Nat),Vals xs aP∧xs.length=aP.length∧s.heap.get? l=some { cls:=.type "list",data:=.seq aP.toArray n }:=by
 obtain ⟨z,aP,n,r,e⟩:=I.bV l _ hH
 exact ⟨z,aP,n,r,r.length,e⟩
theorem u6 {n:Nat} (h:n≤sizeLine):Builtin.List.listTooLong n=false:=by
 unfold Builtin.List.listTooLong
 exact decide_eq_false (by omega)
end
section
variable {X:Cx}
noncomputable def zB:V→List V→Hp→VK→Prop:=fun x vs H Q=>∃ l xs y,x = .ref l∧vs=[y]∧H l=some (.lst xs)∧xs.length < sizeLine∧Q .bb (upd H l (.lst (xs ++ [y])))
theorem bx:WY X "list.append" zB:=by
 intro pins s σ H x vs v us Q I rx rv h
 obtain ⟨l,xs,y,rfl,rfl,hH,hz,q⟩:=h
 cases rx
 obtain ⟨u,rfl,ru⟩:=rv.one
 obtain ⟨z,aP,n,r,hl,e⟩:=I.De hH
 refine call_meets F.slot_list_append ⟨_,e,rfl⟩ F.entry_list_append (F.args_list_append_2 _ _) (PySem.list_append l aP.toArray n u (by rw [g8]; omega)) ⟨e,?_⟩
 refine ⟨.bb,_,I.Mc (its':=aP ++ [u]) hH e (by simp) (r.append (.cons ru .nil)) ?_,rfl,q⟩
 rw [qd,List.length_singleton]
 omega
noncomputable def Hz:V→List V→Hp→VK→Prop:=fun x vs H Q=>∃ l b xs zs,x = .ref l∧vs=[.ref b]∧H l=some (.lst xs)∧H b=some (.lst zs)∧xs.length+zs.length≤sizeLine∧Q .bb (upd H l (.lst (xs ++ zs)))
theorem AR:WY X "list.extend" Hz:=by
 intro pins s σ H x vs v us Q I rx rv h
 obtain ⟨l,b,xs,zs,rfl,rfl,hH,hB,hz,q⟩:=h
 cases rx
 obtain ⟨u,rfl,ru⟩:=rv.one
 cases ru
 obtain ⟨z,aP,n,r,hl,e⟩:=I.De hH
 obtain ⟨z2,dF,n2,r2,hl2,e2⟩:=I.De hB
 have zv:aP.toArray.size+dF.toArray.size≤sizeLine:=by rw [g8,g8]; omega
 have Dg:¬ (!aP.toArray.isEmpty && Builtin.List.listTooLong (aP.toArray.size+dF.toArray.size))=true:=by
  rw [u6 zv,G3]
  exact c7
 refine call_meets F.slot_list_extend ⟨_,e,rfl⟩ F.entry_list_extend (F.args_list_extend_2 _ _)
  (AutoSeq1.list_extend_list_list_0 l aP.toArray n b dF.toArray n2 Dg (by rw [g8]; omega) (by omega)) ⟨e,e2,?_⟩
 refine ⟨.bb,_,I.Mc (its':=aP ++ dF) hH e (by simp) (r.append r2) ?_,rfl,q⟩
 rw [qd]
 omega
noncomputable def QJ:V→List V→Hp→VK→Prop:=fun x vs H Q=>∃ l xs y,x = .ref l∧vs=[]∧H l=some (.lst xs)∧xs[xs.length - 1]?=some y∧Q y (upd H l (.lst xs.dropLast))
theorem x9:WY X "list.pop" QJ:=by
 intro pins s σ H x vs v us Q I rx rv h
 obtain ⟨l,xs,y,rfl,rfl,hH,hy,q⟩:=h
 cases rx
 have WZ:=rv.zero
 subst WZ
 obtain ⟨z,aP,n,r,hl,e⟩:=I.De hH
 obtain ⟨u,hu,ru⟩:=r.get hy
 have W0:aP.toArray[aP.toArray.size - 1]?=some u:=by
  show aP.toArray[aP.length - 1]?=some u
  rw [← Array.getElem?_toList,← hl]
  exact hu
 refine call_meets F.slot_list_pop ⟨_,e,rfl⟩ F.entry_list_pop (F.args_list_pop_1 _) (MeetsSeq.list_pop_last l aP.toArray n u W0 (by rw [g8]; omega)) ⟨e,?_⟩
 refine ⟨y,_,I.Mc (its':=aP.dropLast) hH e ?_ r.dropLast ?_,ru,q⟩
 · show aP.toArray.eraseIdxIfInBounds (aP.toArray.size - 1)=aP.dropLast.toArray
   rw [g8,List.eraseIdxIfInBounds_toArray,x8]
 · rw [Gw]
   omega
noncomputable def W2:R2:=fun x y H Q=>∃ l k xs,x = .ref l∧y = .int k∧H l=some (.lst xs)∧-(2 ^ 63)≤k∧k < 2 ^ 63∧xs.length * k.toNat≤sizeLine ∧
 ∀ p,H p=none→Q (.ref p) (upd H p (.lst (List.replicate k.toNat xs).flatten))
theorem len_rep {α:Type} (xs:List α) (k:Nat):(List.replicate k xs).flatten.length=k * xs.length:=by
 induction k with
 | zero=>simp
 | succ k ih=>rw [ot,CK,qd,ih,Nat.succ_mul,Nat.add_comm]
theorem Md:eY X (binaryOp .Mult) W2:=by
 intro pins s σ H x y v u Q I rx ry h
 obtain ⟨l,k,xs,rfl,rfl,hH,h1,h2,hz,q⟩:=h
 cases rx
 obtain ⟨t,rfl⟩:=ry
 obtain ⟨z,aP,n,r,hl,e⟩:=I.De hH
 have hlen:aP.toArray.size * k.toNat≤sizeLine:=by rw [g8,← hl]; exact hz
 have W3:¬ aP.toArray.size * k.toNat > (2 ^ 63 - 1) / 8:=by
  have:(sizeLine:Nat)≤(2 ^ 63 - 1) / 8:=by decide
  omega
 have W4:¬ (!Builtin.List.listFitsIndex k)=true:=by
  rw [fitsIndex_both h1 h2]
  exact c7
 have Dg:¬ Builtin.List.listTooLong (aP.toArray.size * k.toNat)=true:=by
  rw [u6 hlen]
  exact c7
 have W5:List.foldl (fun x1 x2=>x1 ++ x2) #[] (List.replicate (if aP.toArray.isEmpty=true then 0 else k.toNat) aP.toArray)=(List.replicate k.toNat aP).flatten.toArray:=by
  have f0:∀ m:Nat,List.foldl (fun x1 x2=>x1 ++ x2) #[] (List.replicate m aP.toArray)=(List.replicate m aP).flatten.toArray:=fun m=>by
   have:=foldl_rep aP m []
   rw [List.nil_append] at this
   exact this
  rw [f0]
  cases aP with
  | nil=>simp
  | cons a r'=>rw [if_neg (by simp)]
 refine wpAny_binaryOp_repeat_ref (T:="list") (U:="int") (by decide) ⟨_,e,rfl⟩ (fun s'=>typeIs_int s' k t) noFill_list_mul F.fills_int_mul F.slot_int_rmul repeat_list F.slot_int_index.lookup
  (call_meets F.slot_int_rmul (typeIs_int s k t) F.entry_int_rmul (F.args_int_rmul_2 _ _) (int___rmul___int_list k t l aP.toArray n)
    ⟨e,rfl,⟨_,e,rfl⟩,call_meets F.slot_list_mul ⟨_,e,rfl⟩ F.entry_list_mul (F.args_list_mul_2 _ _) (AutoListH.list___mul___list_int_3 l aP.toArray n k t W4 W3 Dg) ⟨e,?_⟩⟩)
 rw [W5]
 exact ⟨.ref _,_,I.QI (t':=s.toks) (r.rep k.toNat) (by rw [len_rep,Nat.mul_comm]; exact hz),rfl,q _ I.fresh⟩
end
section
variable {prog:Program} {w:World} {A:Around} {E:Value→Shared→Prop} {s:Shared}
end
section
variable {X:Cx}
end
end L2
namespace Vi
open PySem PySem.W PySem.Calls PyProof.Rows
theorem nJ {P:Params} {h:Heap}:∀ (ns:List Int) (vs:List Value),WellAll P h vs (ns.map WData.int)→IntsAre vs ns:=by
 intro ns
 induction ns with
 | nil =>
   intro vs w
   rw [Cs] at w
   cases w
   exact .nil
 | cons n ns ih =>
   intro vs w
   rw [g9] at w
   cases w with
   | cons a b =>
     cases a
     exact .cons _ _ (ih _ b)
theorem AS {l:OpenLaw} {n:Nat} (hn:l.most=some n) {P:Params} {h:Heap} {args:List WData} {vals:List Value}
  (iC:l.row.toRowW.claim.pre args=true) (QK:WellAll P h vals args) :
  ∃ a vs ns,vals=[Value.ref a]∧args=[WData.list (ns.map WData.int)]∧h.get? a=some { cls:=.type "list",data:=.seq vs.toArray }∧IntsAre vs ns∧ns.length≤n:=by
 have hsh:WShape.hasAll [] args [.list .int]=true:=(pre_splitW iC).1
 have hc:l.pre.holds [] { args:=args }=true:=(pre_splitW iC).2
 obtain ⟨d,r,rfl,h1,h2⟩:=hasAllW_cons hsh
 obtain rfl:=hasAllW_nil h2
 obtain ⟨xs,rfl,h3⟩:=hasW_list h1
 obtain ⟨ns,rfl⟩:=items_int h3
 have hlen:ns.length≤n:=by
  unfold OpenLaw.pre at hc
  have h4:(WTm.not (.lt (.lit (.int (n:Int))) (.len (.arg 0)))).holds [] { args:=[.list (ns.map .int)] }=true:=by
   have h4:=(holds_andW hc).1
   rw [hn] at h4
   exact h4
  have h5:=condW_of h4 (w_not (w_lt w_lit (w_len_list (w_arg rfl))))
  rw [b_] at h5
  refine Nat.le_of_not_lt fun q=>?_
  have q':(n:Int) < ((ns.length:Nat):Int):=by omega
  first
   | (rw [decide_eq_true q'] at h5; exact absurd h5 (by decide))
   | (simp at h5; omega)
 cases QK with
 | cons w1 w2 =>
   cases w2
   cases w1 with
   | list ho u7=>exact ⟨_,_,ns,rfl,rfl,ho,nJ ns _ u7,hlen⟩
theorem AU (l:OpenLaw) (args:List WData):l.row.toRowW.claim.post args (.bool true) args=true :=
 postW_of (r:=l.row.toRowW) (X:=(true == true))
  (show WShape.has [] (.bool true) .bool=true by first | rfl | decide | simp [WShape.has,WShape.arms,WShape.armsAll])
  (show (WTm.eq .res (.lit (.bool true))).value [] { args:=args,res:=some (.bool true),after:=args }=some (.bool (true == true)) from w_eq_bool (w_res rfl) w_lit) rfl
theorem u9 {l:OpenLaw} {n:Nat} {q:Program} {loose:List Str} {XP:(Str→Option Value)→Heap→Prop} {YP:World→Heap→Prop} {d:DefRec}
  (hn:l.most=some n) (W6:d.params.defaults=[])
  (call:∀ (w:World) (s₀ s₁:Shared) (mg mb:Str→Option Value) (fa:Addr) (o:Obj) (pm cd doc:Value) (a:Addr) (vs:List Value) (ns:List Int),
    Ground q loose [] XP w s₀ mg mb s₁.heap→YP w s₁.heap →
    s₁.heap.get? fa=some o→o.data = .func (docDef d.name d.params d.body d.scope pm cd doc)→s₁.heap.CodeRec cd d.name→mg d.name=some (.ref fa) →
    s₁.heap.get? a=some { cls:=.type "list",data:=.seq vs.toArray }→IntsAre vs ns→ns.length≤n→s₁.gens = #[] →
    codeAny (model l.prog w) callerA (.call (.ref fa) ⟨[.ref a],[]⟩) (fun r s'=>r = .ok (.ret (.bool true))∧OldK s₁.heap s'.heap∧s'.os=s₁.os∧AllBare s'.gens) s₁) :
  WalkO q loose XP YP l.row.toRowW d [] (fun f vs=>PySem.call f vs):=by
 intro w s₀ s₁ mg mb G Y fa o pm cd doc dV kV ho hd j8 hD QL hg args vals as iC QM GF QK QN
 obtain rfl:dV = .none:=Dflts.none hD W6
 obtain rfl:kV = .none:=Dflts.noKw hD
 obtain ⟨a,vs,ns,rfl,rfl,Me,hints,hlen⟩:=AS hn iC QK
 refine enter_call (codeAny_mono (call w s₀ s₁ mg mb fa o pm cd doc a vs ns G Y ho (fd_plain hd) j8 QL Me hints hlen hg) fun r s' hq=>?_)
 obtain ⟨rfl,h2,h3,h4⟩:=hq
 exact ⟨.inl ⟨.bool true,.bool true,[],rfl,fun _=>rfl,.bool true,AU l _,fun _=>⟨List.Pairwise.nil,fun _ hm=>(nomatch hm)⟩⟩,h2,h3,h4⟩
section
variable {prog:Program} {w:World} {A:Around} {E:Value→Shared→Prop} {s:Shared} {K:Frag}
end
end Vi
namespace L2
open PySem PySem.Spec PyProof.Rows
theorem rD:∀ {vs:List Value} {ns:List Int},IntsAre vs ns→Vals (ns.map V.int) vs
 | _,_,.nil=>.nil
 | _,_,.cons n t h=>.cons ⟨t,rfl⟩ (rD h)
noncomputable def QO (H:Hp):Prop:=∀ b,H b=none∨∃ o xs,H b=some (.uR o (.lst xs))
theorem Dh {P:Program} {w:World} {K:PySem.W.Frag} {mg mb:Str→Option Value} {CX:AN} {k:Nat} {fa a:Addr} {fd:FuncData} {x:Str} {sp:Sp} {s₁:Shared} {vs:List Value} {ns:List Int}
  (KX:K.In s₁.heap) (W7:s₁.heap.Ns mainGlobals mg) (hb:s₁.heap.Ns builtinsNs mb) (hbb:∀ x:Str,x≠"__name__"→mb x=bootBuiltins x) (W8:s₁.heap.NoLimit) (hg:s₁.gens = #[])
  (ha:s₁.heap.get? a=some { cls:=.type "list",data:=.seq vs.toArray }) (hi:IntsAre vs ns) (hl:ns.length≤sizeLine) (hr:bA k callerA)
  (F:∀ base:Heap,K.In base→base.Ns mainGlobals mg→d0 P w K mg base CX k fa fd [x] sp) (QP:∀ (s:Shared) (u:Value),BindsTo s fd ⟨[u],[]⟩ [(x,u)])
  (O9:∀ H:Hp,QO H→gy K H a (ns.map V.int)→sp [.ref a] H (fun v _=>v = .bl true) fun _ _ _=>False)
  (hCX:∀ H e s',CX [] H s₁ (fun _ _ _=>False) e s'→False) :
  codeAny (model P w) callerA (.call (.ref fa) ⟨[.ref a],[]⟩) (fun r s'=>r = .ok (.ret (.bool true))∧OldK s₁.heap s'.heap∧s'.os=s₁.os∧AllBare s'.gens) s₁:=by
 have rv:=rD hi
 have W9:=hi.length
 have core:∀ H:Hp,QO H→gy K H a (ns.map V.int)→kE P w H s₁.heap→(∀ b,H b≠none→b=a)→(H a≠none→K.lookup a=none) →
   codeAny (model P w) callerA (.call (.ref fa) ⟨[.ref a],[]⟩) (fun r s'=>r = .ok (.ret (.bool true))∧OldK s₁.heap s'.heap∧s'.os=s₁.os∧AllBare s'.gens) s₁:=by
  intro H hO hS bV hA hK
  have zC:∀ {b:Addr} {o:Obj},s₁.heap.get? b=some o→H b=none→(sD s₁.heap H).get? b=some o:=fun e n=>CO e n
  have Qv:∀ {b:Addr} {o:Obj} {es:Array DictEntry} {ep:Nat},s₁.heap.get? b=some o→o.data = .dict es ep→H b=none:=fun {b o es ep} e d=>by
   cases q:H b with
   | none=>rfl
   | some u =>
     have e':b=a:=hA b (by rw [q]; simp)
     subst e'
     rw [ha] at e; cases e
     have d':Data.seq vs.toArray _=Data.dict es ep:=d
     cases d'
  have Vj:∀ {b:Addr} {m:Str→Option Value},s₁.heap.Ns b m→(sD s₁.heap H).Ns b m:=fun {b m} ⟨o,es,ep,e,d,r⟩=>⟨o,es,ep,zC e (Qv e d),d,r⟩
  have ZV:K.In (sD s₁.heap H):=fun b o e=>zC (KX b o e) (by
   cases q:H b with
   | none=>rfl
   | some u =>
     have e':b=a:=hA b (by rw [q]; simp)
     subst e'
     rw [hK (by rw [q]; simp)] at e; cases e)
  have hM:Mod K mg (sD s₁.heap H):=⟨ZV,Vj W7,⟨mb,Vj hb,hbb⟩,let ⟨mc,h1,h2⟩:=W8; ⟨mc,Vj h1,h2⟩⟩
  have e0:xZ P w K mg (sD s₁.heap H) callerA [] s₁ H:=⟨rfl,hM,fun b o e=>G5 e,Nat.le_of_eq (AA _ _),trivial,fun b hb=>absurd (show b∈([]:List Addr) from hb) (by simp),bV,.of_eq hg⟩
  refine codeAny_mono ((F _ ZV (Vj W7)).run callerA [] s₁ H ⟨[.ref a],[]⟩ [.ref a] [.ref a] _ _ hr e0 (QP s₁ (.ref a)) (.cons rfl .nil) (O9 H hO hS)) fun r s' h=>?_
  cases r with
  | error e=>exact (hCX H e s' h).elim
  | ok fl =>
    cases fl with
    | ret u =>
      obtain ⟨v,H',os,bare,un,W_,r',q⟩:=h
      have q':v = .bl true:=q
      subst q'
      obtain rfl:u=Value.bool true:=r'
      refine ⟨rfl,OldK.of_keep fun b o e=>?_,os,bare⟩
      cases q:H b with
      | none=>exact un.keep b o e q (by intro z; exact absurd (show b∈([]:List Addr) from z) (by simp)) (by simp)
      | some u =>
        rcases hO b with z | ⟨ob,xs,z⟩
        · rw [q] at z; cases z
        · have z2:=un.sC b ob _ z
          obtain ⟨e1,_⟩:=bV b _ z
          obtain ⟨e2,_⟩:=W_ b _ z2
          rw [e] at e1; cases e1
          exact e2
    | _=>exact False.elim h
 cases hk:K.lookup a with
 | some o =>
   have e:=KX a o hk
   rw [ha] at e
   cases e
   refine core (fun _=>none) (fun _=>.inl rfl) (.inr ⟨_,vs.toArray,_,hk,rfl,rfl,rfl,by rw [g8,W9]; exact hl,by simpa using rv⟩) (fun b u z=>by have z':(none:Option HO)=some u:=z; cases z') (fun b z=>absurd rfl z) fun z=>absurd rfl z
 | none =>
   refine core (fun b=>if b=a then some (.uR { cls:=.type "list",data:=.seq vs.toArray } (.lst (ns.map V.int))) else none) (fun b=>?_) (.inl (.inr ⟨{ cls:=.type "list",data:=.seq vs.toArray },if_pos rfl⟩)) (fun b u z=>?_) (fun b z=>?_) fun _=>hk
   · by_cases hb:b=a
     · exact .inr ⟨_,_,if_pos hb⟩
     · exact .inl (if_neg hb)
   · by_cases hb:b=a
     · have z':=(if_pos hb).symm.trans z
       cases z'
       subst hb
       exact ⟨ha,by rw [b_]; exact hl,vs,_,rv,ha⟩
     · have z':=(if_neg hb).symm.trans z
       cases z'
   · by_cases hb:b=a
     · exact hb
     · exact absurd (if_neg hb) z
noncomputable def inClass (s:Stmt) (j:Nat):Stmt:=match s with
 | .ClassDef _ _ _ body _ _ _ _ _ _ _=>body.getD j (.Pass ⟨0,0,0,0⟩)
 | _=>.Pass ⟨0,0,0,0⟩
noncomputable def gF (s:Stmt):Arguments:=match s with
 | .FunctionDef _ a _ _ _ _ _ _ _ _=>a
 | _=>{ posonlyargs:=[],args:=[],vararg:=none,kwonlyargs:=[],kw_defaults:=[],kwarg:=none,defaults:=[] }
noncomputable def cQ (s:Stmt):List Stmt:=match s with
 | .FunctionDef _ _ b _ _ _ _ _ _ _=>b
 | _=>[]
noncomputable def ak (s:Stmt):Scope:=match s with
 | .FunctionDef _ _ _ _ _ _ sc _ _ _=>sc
 | _=>{ kind:=.function,names:=[],isGenerator:=false,isCoroutine:=false }
noncomputable abbrev jk:AN:=fun _ _ _ _ _ _=>False
noncomputable abbrev E0:XK:=fun _ _ _=>False
theorem rE {X:Cx}:Passes jk X E0:=fun _ _ _ _ _ _ _ h=>h.elim
structure Di (K:PySem.W.Frag) (x qual:Str) (st:Stmt) (f:Addr) (fd:FuncData):Prop where
 ex:∃ (oc:Value) (od:Option Addr) (kV doc pm:Value) (an:Option Addr) (bO ct:Value) (GC:Array (Option Value)),
  fd=PySem.W.fnOf x qual (gF st) (cQ st) (ak st) .none kV doc pm an bO ct∧K.lookup f=some ⟨oc,od,.func fd,GC⟩∧PySem.W.codeIn K bO qual=true
 kp:PySem.W.keepIn K (.ref f)=true
section
variable {P:Program} {w:World} {K:PySem.W.Frag} {mg:Str→Option Value} {base:Heap}
theorem Di.ok {x qual:Str} {st:Stmt} {f:Addr} {fd:FuncData} {N ps:List Str} {k:Nat} {sp:Sp} (F:Di K x qual st f fd) (S:aN N ps (ak st)) (len:∀ vs H Q E,sp vs H Q E→vs.length=ps.length)
  (jh:∀ (bO:Value) (A:Around) (outer:List Env) (s:Shared) (H:Hp) (vs:List V) (Q:VK) (E:XK),bA k (A.deeper (envOfC qual (ak st) s.heap.objs.size f bO))→sp vs H Q E →
    ∃ t,nY (iA jk P w K mg base N qual (ak st) f bO A outer s H E).uW (cQ st) t∧t { nx:=fun _ H'=>Q .bb H',rt:=Q } (start N vs) H):d0 P w K mg base jk (k+1) f fd ps sp:=by
 obtain ⟨oc,od,kV,doc,pm,an,bO,ct,GC,rfl,lk,j8⟩:=F.ex
 refine Qw lk j8 S len fun A outer s H vs Q E hr O9=>?_
 obtain ⟨t,h,q⟩:=jh bO A outer s H vs Q E hr O9
 exact ⟨t,h.uW,q⟩
theorem Di.binds {x qual:Str} {st:Stmt} {f:Addr} {fd:FuncData} {ps:List Str} (F:Di K x qual st f fd)
  (h:∀ (kV doc pm:Value) (an:Option Addr) (bO ct:Value) (us:List Value),us.length=ps.length→bindArgs (PySem.W.fnOf x qual (gF st) (cQ st) (ak st) .none kV doc pm an bO ct) ⟨us,[]⟩=pure (ps.zip us)):Binds K fd ps []:=by
 obtain ⟨oc,od,kV,doc,pm,an,bO,ct,GC,rfl,lk,j8⟩:=F.ex
 exact .all (h kV doc pm an bO ct)
theorem x_ {x qual:Str} {st:Stmt} {f:Addr} {oc:Value} {od an:Option Addr} {GC:Array (Option Value)} {kV doc pm bO ct:Value} (l:K.lookup f=some ⟨oc,od,.func (PySem.W.fnOf x qual (gF st) (cQ st) (ak st) .none kV doc pm an bO ct),GC⟩)
 (c:PySem.W.codeIn K bO qual=true) (k:PySem.W.keepIn K (.ref f)=true):Di K x qual st f (PySem.W.fnOf x qual (gF st) (cQ st) (ak st) .none kV doc pm an bO ct):=⟨⟨oc,od,kV,doc,pm,an,bO,ct,GC,rfl,l,c⟩,k⟩
end
theorem AV {n:Nat} (h:n≤1000):n < sizeLine:=U6 h (by decide)
section
variable {X:Cx}
end
theorem QQ {A B:Prop} (h:B):if false=true then A else B:=by
 rw [if_neg c7]
 exact h
theorem QR {A B:Prop} (h:A):if true=true then A else B:=by
 rw [if_pos rfl]
 exact h
theorem nK {c A B:Prop} [Decidable c] (h1:c→A) (h2:¬ c→B):if c then A else B:=by
 by_cases h:c
 · rw [if_pos h]
   exact h1 h
 · rw [if_neg h]
   exact h2 h
noncomputable def aX (H H':Hp):Prop:=∀ b o,H b=some o→H' b=some o
theorem aX.refl (H:Hp):aX H H:=fun _ _ h=>h
theorem aX.trans {H H1 H2:Hp} (a:aX H H1) (b:aX H1 H2):aX H H2:=fun c o h=>b c o (a c o h)
section
theorem iD {env:Env} {f:Str×NameKind→List (Str×Addr)→Sem (ForInStep (List (Str×Addr)))}:∀ (l:List (Str×NameKind)) (cs:List (Str×Addr)),
  (∀ p∈l,∀ r,(p.2 = .free→∃ c,env.cells.lookup p.1=some c∧f p r=pure (.yield ((p.1,c) :: r)))∧(p.2≠.free→f p r=pure (.yield r))) →
  ∃ cl,forIn l cs f=pure cl∧(∀ y c,cl.lookup y=some c→cs.lookup y=some c∨env.cells.lookup y=some c)∧(∀ y,(cs.lookup y).isSome=true→(cl.lookup y).isSome=true) ∧
   ∀ p∈l,p.2 = .free→(cl.lookup p.1).isSome=true
 | [],cs,_=>⟨cs,by rw [List.forIn_nil],fun _ _ h=>.inl h,fun _ h=>h,fun _ h=>nomatch h⟩
 | p :: l,cs,hf=>by
   have hr:∀ q∈l,∀ r,(q.2 = .free→∃ c,env.cells.lookup q.1=some c∧f q r=pure (.yield ((q.1,c) :: r)))∧(q.2≠.free→f q r=pure (.yield r)):=fun q hq r=>hf q (jc _ hq) r
   by_cases hp:p.2 = .free
   · obtain ⟨c,hc,e⟩:=(hf p iw cs).1 hp
     obtain ⟨cl,h1,h2,h3,h4⟩:=iD l ((p.1,c) :: cs) hr
     refine ⟨cl,?_,fun y d h=>?_,fun y h=>h3 y ?_,fun q hq Vk=>?_⟩
     · rw [List.forIn_cons,e]
       exact h1
     · rcases h2 y d h with z | z
       · rw [GZ] at z
         cases hy:y == p.1 with
         | true =>
           rw [hy] at z
           have ey:y=p.1:=eq_of_beq hy
           cases z
           rw [ey]
           exact .inr hc
         | false=>rw [hy] at z; exact .inl z
       · exact .inr z
     · rw [GZ]
       cases hy:y == p.1 with
       | true=>rfl
       | false=>exact h
     · rcases cZ.mp hq with z | z
       · subst z
         refine h3 _ ?_
         rw [GZ,beq_self_eq_true]
         rfl
       · exact h4 q z Vk
   · have e:=(hf p iw cs).2 hp
     obtain ⟨cl,h1,h2,h3,h4⟩:=iD l cs hr
     refine ⟨cl,?_,h2,h3,fun q hq Vk=>?_⟩
     · rw [List.forIn_cons,e]
       exact h1
     · rcases cZ.mp hq with z | z
       · subst z; exact absurd Vk hp
       · exact h4 q z Vk
theorem i0 {scope:Scope} {env:Env} (h:∀ p∈scope.names,p.2 = .free→∃ c,env.cells.lookup p.1=some c) :
  ∃ cl,closureFor scope env=pure cl∧(∀ y c,cl.lookup y=some c→env.cells.lookup y=some c)∧∀ p∈scope.names,p.2 = .free→∃ c,cl.lookup p.1=some c:=by
 have key:∃ cl,closureFor scope env=pure cl∧(∀ y c,cl.lookup y=some c→([]:List (Str×Addr)).lookup y=some c∨env.cells.lookup y=some c)∧(∀ y,(([]:List (Str×Addr)).lookup y).isSome=true→(cl.lookup y).isSome=true) ∧
   ∀ p∈scope.names,p.2 = .free→(cl.lookup p.1).isSome=true:=by
  simp only [closureFor]
  have go:=@iD env (fun x r=>if x.2 == NameKind.free then (do let c ← cellOf env x.1; pure (ForInStep.yield ((x.1,c) :: r))) else pure (ForInStep.yield r)) scope.names [] ?_
  · obtain ⟨cl,h1,h2⟩:=go
    refine ⟨cl,?_,h2⟩
    first
     | (show (forIn scope.names [] _ >>= fun cs=>pure cs)=_; rw [h1]; rfl)
     | (rw [h1]; rfl)
     | exact congrArg (· >>= pure) h1
  · intro p hp r
    refine ⟨fun hf=>?_,fun hf=>?_⟩
    · obtain ⟨c,hc⟩:=h p hp hf
      refine ⟨c,hc,?_⟩
      have e1:(p.2 == NameKind.free)=true:=by rw [hf]; rfl
      have e2:cellOf env p.1=pure c:=by unfold cellOf; rw [hc]
      rw [e1,if_pos rfl,e2]
      rfl
    · have e1:(p.2 == NameKind.free)=false:=by simpa using hf
      rw [e1,if_neg (by decide)]
 obtain ⟨cl,h1,h2,h3,h4⟩:=key
 refine ⟨cl,h1,fun y c e=>?_,fun p hp hf=>Option.isSome_iff_exists.mp (h4 p hp hf)⟩
 rcases h2 y c e with z | z
 · rw [List.lookup_nil] at z; cases z
 · exact z
theorem kN {scope:Scope} {env:Env} (y:Str):(relabel scope env).names.lookup y =
  (scope.names.lookup y).map fun k=>if (k == .free && env.scope.kind == .function && env.kindOf y == some .cell)=true then .cell else k:=by
 have key:∀ l:List (Str×NameKind),(l.map fun (n,k)=>if (k == NameKind.free && env.scope.kind == .function && env.kindOf n == some .cell) then (n,NameKind.cell) else (n,k)).lookup y =
   (l.lookup y).map fun k=>if (k == .free && env.scope.kind == .function && env.kindOf y == some .cell)=true then .cell else k:=by
  intro l
  induction l with
  | nil=>rfl
  | cons p l ih =>
    obtain ⟨n,k⟩:=p
    rw [g9]
    show List.lookup y ((if (k == NameKind.free && env.scope.kind == .function && env.kindOf n == some .cell)=true then (n,NameKind.cell) else (n,k)) :: _)=_
    by_cases hc:(k == NameKind.free && env.scope.kind == .function && env.kindOf n == some .cell)=true
    · rw [if_pos hc,GZ,GZ]
      cases hy:y == n with
      | true =>
        have ey:y=n:=eq_of_beq hy
        subst ey
        show some NameKind.cell=some (if _ then _ else _)
        rw [if_pos hc]
      | false=>exact ih
    · rw [if_neg hc,GZ,GZ]
      cases hy:y == n with
      | true =>
        have ey:y=n:=eq_of_beq hy
        subst ey
        show some k=some (if _ then _ else _)
        rw [if_neg hc]
      | false=>exact ih
 exact key scope.names
end
noncomputable def ka (N ts:List Str) (out sc:Scope):Bool :=
 (sc.kind == .function) && sc.names.all (fun p=>(p.2 != .cell) && (p.2 != .free || out.names.lookup p.1 == some .cell || out.names.lookup p.1 == some .free) && (p.2 != .local || sc.names.lookup p.1 == some .local))
   && N.all (fun y=>sc.names.lookup y != some .local) && ts.all (fun y=>sc.names.lookup y == some .local) && decide ((N ++ ts).Nodup)
structure oB (N ts:List Str) (out sc:Scope):Prop where
 kind:sc.kind = .function
 Dj:∀ p∈sc.names,p.2≠.cell
 fr:∀ p∈sc.names,p.2 = .free→out.names.lookup p.1=some .cell∨out.names.lookup p.1=some .free
 names:∀ p∈sc.names,p.2 = .local→sc.names.lookup p.1=some .local
 own:∀ y∈N,sc.names.lookup y≠some .local
 tgt:∀ y∈ts,sc.names.lookup y=some .local
 nd:(N ++ ts).Nodup
theorem rF {N ts:List Str} {out sc:Scope} (h:ka N ts out sc=true):oB N ts out sc:=by
 unfold ka at h
 rw [kB,kB,kB,kB] at h
 obtain ⟨⟨⟨⟨h1,h2⟩,h3⟩,h4⟩,h5⟩:=h
 rw [G0] at h2 h3 h4
 refine ⟨eq_of_beq h1,fun p hp=>?_,fun p hp hf=>?_,fun p hp hl=>?_,fun y hy=>?_,fun y hy=>?_,of_decide_eq_true h5⟩
 · have:=h2 p hp
   rw [kB,kB] at this
   simpa using this.1.1
 · have:=h2 p hp
   rw [kB,kB] at this
   have q:=this.1.2
   rw [hf] at q
   simpa using q
 · have:=h2 p hp
   rw [kB,kB] at this
   have q:=this.2
   rw [hl] at q
   simpa using q
 · simpa using h3 y hy
 · simpa using h4 y hy
noncomputable def bt (X:Cx) (ts:List Str) (sc:Scope) (cl:List (Str×Addr)) (C:Addr) (fp:List Addr) (s:Shared) (H:Hp):Cx where
 prog:=X.prog
 w:=X.w
 K:=X.K
 mg:=X.mg
 base:=X.base
 A:=X.A
 N:=X.N ++ ts
 s₀:=s
 H₀:=H
 env:=compEnvC sc cl C X.env
 outer:=X.stack
 stack:=X.stack
 ex:=fp
 fn:=fun _=>false
 calm:=X.calm
 pn:=[]
 xe:=fun _ _=>False
section
variable {X:Cx} {pins:List (Addr×Obj)} {σ:St} {H:Hp} {s:Shared} {ts:List Str} {sc:Scope} {cl:List (Str×Addr)} {C D:Addr} {fp:List Addr}
theorem rG (hS:oB X.N ts X.env.scope sc) {y:Str} (h:xA (relabel sc X.env) y):sc.names.lookup y=some .local∨(sc.names.lookup y=some .free∧((relabel sc X.env).names.lookup y=some .cell∨(relabel sc X.env).names.lookup y=some .free)):=by
 have e:=kN (scope:=sc) (env:=X.env) y
 cases hk:sc.names.lookup y with
 | none =>
   rw [hk] at e
   have e':(relabel sc X.env).names.lookup y=none:=e
   rcases h with h | h | h <;> rw [e'] at h <;> cases h
 | some k =>
   have hm:(y,k)∈sc.names:=Kc hk
   rw [hk] at e
   cases k with
   | «local»=>exact .inl rfl
   | cell=>exact absurd rfl (hS.Dj _ hm)
   | free =>
     refine .inr ⟨rfl,?_⟩
     rw [e,OX]
     by_cases hc:(NameKind.free == .free && X.env.scope.kind == .function && X.env.kindOf y == some .cell)=true
     · rw [if_pos hc]; exact .inl rfl
     · rw [if_neg hc]; exact .inr rfl
   | globalExplicit =>
     have e':(relabel sc X.env).names.lookup y=some .globalExplicit:=e
     rcases h with h | h | h <;> rw [e'] at h <;> cases h
   | globalImplicit =>
     have e':(relabel sc X.env).names.lookup y=some .globalImplicit:=e
     rcases h with h | h | h <;> rw [e'] at h <;> cases h
theorem zD (I:Inv X pins σ H s) (hf:∀ b∈fp,lZ X pins H b):∀ b∈fp,b∉Cu X.stack:=fun b hb z=>by
 obtain ⟨_,f1,f2,_⟩:=hf b hb
 rcases cZ.mp (I.xM b z) with e | e
 · exact f1 e
 · exact f2 e
theorem HA (I:Inv X pins σ H s) (hf:∀ b∈fp,lZ X pins H b) (Mf:∀ b∈fp,∃ o,s.heap.get? b=some o) (hS:oB X.N ts X.env.scope sc)
  (c1:∀ y c,cl.lookup y=some c→X.env.cells.lookup y=some c) (c2:∀ p∈sc.names,p.2 = .free→∃ c,cl.lookup p.1=some c)
  (hC:s.heap.objs.size≤C) (hD:s.heap.objs.size≤D) (Vl:D≠C) {h1:Heap} {m:Str→Option Value} {n:Nat} {t:Nat} (k:∀ b o,s.heap.get? b=some o→h1.get? b=some o) (hn:h1.Ns C m)
  (hd:h1.get? D=some { cls:=.type "list",data:=.seq ([]:List Value).toArray n }) :
  Inv (bt X ts sc cl C fp s H) [] (σ ++ ts.map fun _=>none) (upd H D (.lst [])) { s with heap:=h1,toks:=t }:=by
 have sz:=I.sz
 have W':∀ b∈fp,b < s.heap.objs.size:=fun b hb=>by obtain ⟨o,e⟩:=Mf b hb; exact fM e
 have G8:∀ y c,cl.lookup y=some c→c < s.heap.objs.size:=fun y c e=>by obtain ⟨v,q⟩:=I.cell y c (c1 y c e); exact q.lt
 have ok:(bt X ts sc cl C fp s H).Ok:=by
  refine ⟨I.ok.mod,hS.kind,I.ok.glob,I.ok.blt,hC,fun x y c e1 e2=>I.ok.inj x y c (c1 x c e1) (c1 y c e2),fun x hx=>?_,fun x c hx=>absurd hx (by simp [bt]),I.ok.hd,I.ok.frames,.inl rfl,fun b hb=>?_,fun b o e=>I.bs b o e,
   nI I.ok.Cv sz,fun b o e hb=>?_,zD I hf,I.stack,fun b hb=>I.zl b hb⟩
  · have hv:xA (relabel sc X.env) x:=by
     rcases hx with hx | hx
     · exact .inr (.inl hx)
     · exact .inr (.inr hx)
    rcases rG hS hv with z | ⟨z,_⟩
    · have e:=kN (scope:=sc) (env:=X.env) x
      rw [z] at e
      have e':(relabel sc X.env).names.lookup x=some .local:=e
      have Pb:(relabel sc X.env).names.lookup x=some .cell∨(relabel sc X.env).names.lookup x=some .free:=hx
      rw [e'] at Pb
      rcases Pb with q | q <;> cases q
    · exact c2 _ (Kc z) rfl
  · exact ⟨fun e=>absurd (rf (W' b hb) hC) (by have e':b=C:=e; rw [e']; exact Cr _),fun x c e z=>(hf b hb).2.2.2.2.1 x c (c1 x c e) z⟩
  · rcases (hf b hb).2.2.2.1 with z | z
    · exact I.ok.xK b o e z
    · exact absurd (rf (fM e) (nI I.ok.Cv z)) (Cr _)
 have hnD:H D=none:=I.bV.fresh hD
 refine ⟨ok,rfl,I.bare,Un.laid k hD hnD,⟨m,hn,fun i x v e1 e2 e3=>?_⟩,fun x c e=>?_,?_,fun x c e=>?_,fun p hp=>absurd (show p∈([]:List (Addr×Obj)) from hp) (by simp),I.bV.laid k hD ⟨qe _,[],n,.nil,hd⟩,?_⟩
 · have hi:i < σ.length:=by
    by_cases hi:i < σ.length
    · exact hi
    · rw [sA (by omega),gw] at e2
      cases q:ts[i - σ.length]? with
      | none=>rw [q] at e2; cases e2
      | some a=>rw [q] at e2; cases e2
   have GG:σ[i]?=some (some v):=by rw [oq hi] at e2; exact e2
   have ZW:X.N[i]?=some x:=by
    have QS:(X.N ++ ts)[i]?=some x:=e1
    rw [oq (by rw [← I.len]; exact hi)] at QS
    exact QS
   rcases rG hS e3 with z | ⟨z,zr⟩
   · exact absurd z (hS.own x (j7 ZW))
   · have hm:=Kc z
     have ho:=hS.fr _ hm rfl
     obtain ⟨m0,_,hl⟩:=I.loc
     obtain ⟨u,r,l⟩:=hl i x v ZW GG (.inr ho)
     obtain ⟨c',jS⟩:=c2 _ hm rfl
     rcases l with ⟨l,_⟩ | ⟨_,c,hc,z2⟩
     · have l':X.env.scope.names.lookup x=some .local:=l
       rw [l'] at ho
       rcases ho with q | q <;> cases q
     · have ec:=c1 x c' jS
       rw [hc] at ec
       cases ec
       exact ⟨u,r,.inr ⟨zr,_,jS,z2.keeps k⟩⟩
 · obtain ⟨v,z⟩:=I.cell x c (c1 x c e)
   exact ⟨v,z.keeps k⟩
 · show upd H D (.lst []) C=none
   rw [aW (Ne.symm Vl)]
   exact I.bV.fresh hC
 · show upd H D (.lst []) c=none
   rw [aW (je (rf (G8 x c e) hD))]
   exact I.hJ x c (c1 x c e)
 · show (σ ++ ts.map fun _=>none).length=(X.N ++ ts).length
   rw [qd,qd,b_,I.len]
theorem u_ (I:Inv X pins σ H s) (hf:∀ b∈fp,lZ X pins H b) {zo:List (Addr×Obj)} {σ':St} {H':Hp} {s':Shared} (J:Inv (bt X ts sc cl C fp s H) zo σ' H' s'):Inv X pins σ H' s' :=
 I.P5 J.os J.base J.bV J.bare fun b hb=>by
  obtain ⟨_,f1,_,f3,f4,f5⟩:=hf b hb
  exact ⟨f3,f1,f4,f5⟩
end
section
variable {prog:Program} {w:World} {A:Around} {R:Result→Shared→Prop} {s:Shared}
theorem jT {elt target iter:Expr} {ifs:List Expr} {scope:Scope} {pos:Pos} {it acc:Value} {env:Env} (I:Nat→Shared→Prop)
  (turn:∀ n s,I n s→wpAny (model prog w) A (pyNext it) (fun r s₁=>match r with
    | none=>R (.ok .next) s₁
    | some v=>wpAny (model prog w) A (letOwnedTupleGo target it v) (fun _ ZX=>wpAny (model prog w) A (assign target env v) (fun _ s₂ =>
       wpAny (model prog w) A (forIn ifs true fun c r=>if r=true then do let ok ← isTrue c env (eval c env); pure (ForInStep.yield ok) else pure (ForInStep.yield r)) (fun ok s₃ =>
        if ok=true then wpAny (model prog w) A (eval elt env) (fun x s₄ =>
         wpAny (model prog w) A (call (.builtin "list.append") [acc,x]) (fun _ s₅=>∃ m,m < n∧I m s₅) (notedBy (model prog w) A env fun e s'=>R (.error e) s') s₄) (notedBy (model prog w) A env fun e s'=>R (.error e) s') s₃
        else ∃ m,m < n∧I m s₃) (notedBy (model prog w) A env fun e s'=>R (.error e) s') s₂) (notedBy (model prog w) A env fun e s'=>R (.error e) s') ZX)
       (notedBy (model prog w) A env fun e s'=>R (.error e) s') s₁) (notedBy (model prog w) A env fun e s'=>R (.error e) s') s)
  (n:Nat) (h:I n s):codeAny (model prog w) A (.compLoop (.ListComp elt [⟨target,iter,ifs,0⟩] scope pos) 0 it acc env) R s:=by
 refine codeAny_loop rfl I (fun n s hI=>?_) n h
 show wpAny _ A ((compTurn (.ListComp elt [⟨target,iter,ifs,0⟩] scope pos) 0 it acc env).onRaise (fun x=>do noteFrame x env; theTreesLotGoes x)) _ _ s
 refine wpAny_noted ?_
 rw [compTurn_list]
 refine wpAny_bind (wpAny_standAt (wpAny_bind (wpAny_mono (turn n s hI) (fun r s₁ h₁=>?_) fun _ _ h'=>h')))
 cases r with
 | none=>exact wpAny_pure h₁
 | some v =>
   refine wpAny_bind (wpAny_mono h₁ (fun _ ZX h₁'=>?_) fun _ _ h'=>h')
   refine wpAny_bind (wpAny_mono h₁' (fun _ s₂ h₂=>wpAny_bind (wpAny_mono h₂ (fun ok s₃ h₃=>?_) fun _ _ h'=>h')) fun _ _ h'=>h')
   cases ok with
   | false=>exact wpAny_pure ⟨rfl,h₃⟩
   | true =>
     exact wpAny_bind (wpAny_bind (wpAny_mono h₃ (fun x s₄ h₄=>wpAny_bind (wpAny_mono h₄ (fun _ s₅ h₅=>wpAny_pure (wpAny_pure ⟨rfl,h₅⟩)) fun _ _ h'=>h')) fun _ _ h'=>h'))
end
noncomputable def GH (X:Cx) (ifs:List Expr) (t:TT):Prop :=
 ∀ (pins:List (Addr×Obj)) (s:Shared) (σ:St) (H:Hp) (Q:Bool→Hp→Prop),Inv X pins σ H s→t σ H Q →
  wpAny (model X.prog X.w) X.A (forIn ifs true fun c r=>if r=true then do let ok ← isTrue c X.env (eval c X.env); pure (ForInStep.yield ok) else pure (ForInStep.yield r)) (TP X pins σ Q) X.xe s
noncomputable def Xa:TT:=fun _ H Q=>Q true H
theorem HB {X:Cx}:GH X [] Xa:=fun _ _ _ H _ I h=>wpAny_tests_nil ⟨H,I,h⟩
noncomputable def Dk (J:It) (g:TG) (tt:TT) (te:TE) (n:Nat) (σ:St) (D:Addr) (Q:Hp→Prop) (H1:Hp):Prop :=
 ∃ W:Nat→Nat→List V→Hp→Prop,(∃ m,W 0 m [] (upd H1 D (.lst [])))∧∀ i m acc H2,W i m acc H2→H2 D=some (.lst acc) ∧
  ((J.stop i H2∧Q H2)∨(J.go i H2∧acc.length < sizeLine∧∀ x H3,J.Qe i H2 x H3→g x (σ ++ List.replicate n none) H3 fun σ4 H4=>(σ4.length=σ.length+n∧∀ (i:Nat) v,σ[i]?=some (some v)→σ4[i]?=some (some v)) ∧
    tt σ4 H4 fun b H5=>if b=true then te σ4 H5 fun y H6=>H6 D=some (.lst acc)∧∃ m',m' < m∧W (i+1) m' (acc ++ [y]) (upd H6 D (.lst (acc ++ [y]))) else ∃ m',m' < m∧W (i+1) m' acc H5))
section
variable {X:Cx} {pins:List (Addr×Obj)} {σ:St} {H:Hp} {s:Shared} {ts:List Str} {sc:Scope} {cl:List (Str×Addr)} {fp:List Addr}
theorem AW {Y:Cx} {pl:List (Addr×Obj)} {σ4:St} {H':Hp} {s':Shared} {n:Nat} (I:Inv Y pl σ4 H' s') (hl:σ4.length=σ.length+n) (hs:∀ (i:Nat) v,σ[i]?=some (some v)→σ4[i]?=some (some v)) :
  Inv Y pl (σ ++ List.replicate n none) H' s':=by
 refine I.weak (by rw [qd,xt,hl]) fun i v e=>?_
 by_cases hi:i < σ.length
 · rw [oq hi] at e
   exact hs i v e
 · rw [sA (by omega),Av] at e
   split at e <;> cases e
theorem va {elt iter tg:Expr} {ifs:List Expr} {pos:Pos} {it:Addr} {tn:Nat→Heap→Prop} {J:It} {g:TG} {tt:TT} {te:TE} {Q:Hp→Prop} {RR:Value→Addr→Result→Shared→Prop} {E:Value→Shared→Prop}
  (hc:X.calm=true) (I:Inv X pins σ H s) (T:Turn X.prog X.w X.K tg J fp it tn) (st:tn 0 s.heap) (hf:∀ b∈fp,lZ X pins H b) (hS:oB X.N ts X.env.scope sc)
  (c1:∀ y c,cl.lookup y=some c→X.env.cells.lookup y=some c) (c2:∀ p∈sc.names,p.2 = .free→∃ c,cl.lookup p.1=some c)
  (hg:∀ C,PG (bt X ts sc cl C fp s H) tg g) (ht:∀ C,GH (bt X ts sc cl C fp s H) ifs tt) (he:∀ C,PE (bt X ts sc cl C fp s H) elt te)
  (hw:Dk J g tt te ts.length σ s.heap.objs.size Q H)
  (fin:∀ (C:Addr) (H':Hp) (s':Shared) (σ':St),s.heap.objs.size≤C→Inv (bt X ts sc cl C fp s H) [] σ' H' s'→Q H'→RR (.ref s.heap.objs.size) C (.ok .next) s') :
  wpAny (model X.prog X.w) X.A (newList []) (fun acc s₃=>wpAny (model X.prog X.w) X.A (newFunctionEnv sc X.env.globals cl [] X.env.qual none .none (some X.env)) (fun QT s₄ =>
   codeAny (model X.prog X.w) X.A (.compStart (.ListComp elt [⟨tg,iter,ifs,0⟩] sc pos) 0 (.ref it) acc { QT with scope:=relabel sc X.env }) (RR acc QT.locals) s₄) E s₃) E s:=by
 obtain ⟨W,⟨m0,w0⟩,turn⟩:=hw
 have Xb:=T.obj 0 _ st
 have Mf:∀ b∈fp,∃ o,s.heap.get? b=some o:=fun b hb=>let ⟨o,e,_⟩:=Xb b hb; ⟨o,e⟩
 refine wpAny_newObj_type (wpAny_newFunctionEnv hS.Dj (by intro y hy; simp at hy) (fun h₁ Mh HC=>?_) hS.kind)
 dsimp only at Mh HC ⊢
 generalize Xc:s.heap.push { cls:=.type "list",dict:=none,data:=.seq ([]:List Value).toArray }=H2 at Mh HC ⊢
 have hC:H2.objs.size=s.heap.objs.size+1:=by rw [← Xc,xy]
 have Vl:s.heap.objs.size≠H2.objs.size:=by rw [hC]; exact je (xv _)
 have QU:s.heap.objs.size≤H2.objs.size:=by rw [hC]; exact Lo _
 have below:∀ b,b < s.heap.objs.size→b≠H2.objs.size∧b≠s.heap.objs.size:=fun b hb=>⟨by rw [hC]; exact je (GX hb),je hb⟩
 have old:∀ b o,s.heap.get? b=some o→h₁.get? b=some o:=fun b o e=>HC.extBut b o (below b (fM e)).1 (fF _ (Xc▸fF _ e))
 have Xd:h₁.get? s.heap.objs.size=some { cls:=.type "list",data:=.seq ([]:List Value).toArray }:=HC.extBut _ _ Vl (fF _ (Xc▸mZ _ rfl))
 have QV:tn 0 h₁:=T.keep _ _ _ st fun b hb o e=>old b o e
 have fresh:H s.heap.objs.size=none:=I.bV.fresh (cA _)
 have Vm:∀ {H':Hp},(∀ b∈fp,H' b=none)→∀ b∈fp,lZ (bt X ts sc cl H2.objs.size fp s H) [] H' b:=fun {H'} hn b hb=>by
  obtain ⟨o,e⟩:=Mf b hb
  refine ⟨hn b hb,fun z=>?_,zD I hf b hb,.inl hb,fun x c e z=>(hf b hb).2.2.2.2.1 x c (c1 x c e) z,fun p hp=>absurd (show p∈([]:List (Addr×Obj)) from hp) (by simp)⟩
  have z':b=H2.objs.size:=z
  exact (below b (fM e)).1 z'
 have fp0:∀ b∈fp,(upd H s.heap.objs.size (.lst [])) b=none:=fun b hb=>by
  obtain ⟨o,e⟩:=Mf b hb
  rw [aW (je (fM e))]
  exact (hf b hb).1
 have eN:(ts.map fun _=>(none:Option V))=List.replicate ts.length none:=List.map_const'
 have loop:∀ s₃:Shared,s₃={ s with heap:=h₁,toks:=s.toks+([]:List (Str×Value)).length } →
   codeAny (model X.prog X.w) X.A (.compLoop (.ListComp elt [⟨tg,iter,ifs,0⟩] sc pos) 0 (.ref it) (.ref s.heap.objs.size) (compEnvC sc cl H2.objs.size X.env)) (RR (.ref s.heap.objs.size) H2.objs.size) s₃:=by
  rintro s₃ rfl
  have J0:=HA (ts:=ts) (t:=s.toks+([]:List (Str×Value)).length) I hf Mf hS c1 c2 QU (cA _) Vl old Mh Xd
  rw [eN] at J0
  refine jT (fun n s'=>∃ i acc H',Inv (bt X ts sc cl H2.objs.size fp s H) [] (σ ++ List.replicate ts.length none) H' s'∧tn i s'.heap∧(∀ b∈fp,H' b=none)∧W i n acc H') ?_ m0 ⟨0,[],_,J0,QV,fp0,w0⟩
  rintro n s3 ⟨i,acc,H3,J3,Qi,Qj,w3⟩
  obtain ⟨hD3,alt⟩:=turn i n acc H3 w3
  rcases alt with ⟨stop,q⟩ | ⟨go,hz,step⟩
  · refine cb (T.done (bt X ts sc cl H2.objs.size fp s H) rfl rfl rfl hc i [] s3 _ H3 _ J3 (Vm Qj) Qi stop) fun r s4 ⟨hr,J4⟩=>?_
    subst hr
    exact fin _ H3 s4 _ QU J4 q
  · refine cb (T.item (bt X ts sc cl H2.objs.size fp s H) rfl rfl rfl hc i [] s3 _ H3 _ J3 (Vm Qj) Qi go) fun r s4 ⟨u,hr,h4⟩=>?_
    subst hr
    refine cb h4 fun _ s5 ⟨x,H5,J5,r5,y5,LL,WK⟩=>?_
    have J5':=J5.pinned (Vm WK) (T.obj _ _ LL)
    have again:∀ {σ7:St} {H7:Hp} {s7:Shared},Inv (bt X ts sc cl H2.objs.size fp s H) ([] ++ oz fp s5.heap) σ7 H7 s7→(σ7.length=σ.length+ts.length∧∀ (i:Nat) v,σ[i]?=some (some v)→σ7[i]?=some (some v))→∀ Mi m',W (i+1) m' Mi H7→m' < n →
      ∃ m,m < n∧∃ i acc H',Inv (bt X ts sc cl H2.objs.size fp s H) [] (σ ++ List.replicate ts.length none) H' s7∧tn i s7.heap∧(∀ b∈fp,H' b=none)∧W i m acc H':=fun {σ7 H7 s7} I7 hσ Mi m' w7 hm=>by
     refine ⟨m',hm,i+1,Mi,H7,AW I7.kH hσ.1 hσ.2,T.keep _ _ _ LL fun b hb o e=>(I7.pin (b,o) (jW _ (jW _ (iz hb e)))).1,fun b hb=>?_,w7⟩
     obtain ⟨o,e,d⟩:=T.obj _ _ LL b hb
     exact (I7.pin (b,o) (jW _ (jW _ (iz hb e)))).2.1
    refine wpAny_mono (hg H2.objs.size _ s5 _ H5 x u _ J5' r5 (step x H5 y5)) (fun _ s6 ⟨σ6,H6,J6,hσ,q6⟩=>?_) fun _ _ z=>False.elim z
    refine wpAny_mono (ht H2.objs.size _ s6 σ6 H6 _ J6 q6) (fun b s7 ⟨H7,J7,q7⟩=>?_) fun _ _ z=>False.elim z
    cases b with
    | false =>
      obtain ⟨m',hm,w7⟩:=q7
      exact again J7 hσ acc m' w7 hm
    | true =>
      show wpAny _ _ _ _ _ _
      refine wpAny_mono (he H2.objs.size _ s7 σ6 H7 _ J7 q7) (fun y s8 ⟨yv,H8,J8,ry,hD8,m',hm,w8⟩=>?_) fun _ _ z=>False.elim z
      refine wpAny_mono (bx (X:=bt X ts sc cl H2.objs.size fp s H) _ s8 σ6 H8 (.ref s.heap.objs.size) [yv] (.ref s.heap.objs.size) [y] (fun v H9=>v = .bb∧H9=upd H8 s.heap.objs.size (.lst (acc ++ [yv]))) J8 rfl (.cons ry .nil) ⟨_,acc,yv,rfl,rfl,hD8,hz,rfl,rfl⟩) (fun v9 s9 ⟨v,H9,J9,_,_,e9⟩=>?_) fun _ _ z=>False.elim z
      subst e9
      exact again J9 hσ (acc ++ [yv]) m' w8 hm
 exact codeAny_compStart_list (loop _ rfl) (T.self _ 0 _ _ _ QV (loop _ rfl))
noncomputable def Dl (n:Nat) (wi:TI) (g:TG) (tt:TT) (te:TE):TE:=fun σ H Q=>wi σ H fun J H1=>∀ D,H1 D=none→Dk J g tt te n σ D (Q (.ref D)) H1
theorem vb (I:Inv X pins σ H s) (hS:oB X.N ts X.env.scope sc):∀ p∈sc.names,p.2 = .free→∃ c,X.env.cells.lookup p.1=some c:=fun p hp hf=>by
 rcases hS.fr p hp hf with z | z
 · exact I.ok.has p.1 (.inl z)
 · exact I.ok.has p.1 (.inr z)
theorem HE {elt iter tg:Expr} {ifs:List Expr} {pos:Pos} {wi:TI} {g:TG} {tt:TT} {te:TE} (hc:X.calm=true) (hS:ka X.N ts X.env.scope sc=true) (hi:PI X tg iter wi)
  (hg:∀ cl C fp s H,PG (bt X ts sc cl C fp s H) tg g) (ht:∀ cl C fp s H,GH (bt X ts sc cl C fp s H) ifs tt) (he:∀ cl C fp s H,PE (bt X ts sc cl C fp s H) elt te)
  (hs:∀ x,foldedSetIterable iter X.env x=pure x:=by intro _; rfl):PE X (.ListComp elt [⟨tg,iter,ifs,0⟩] sc pos) (Dl ts.length wi g tt te):=by
 intro pins s σ H Q I h
 have S:=rF hS
 obtain ⟨cl,Dm,c1,c2⟩:=i0 (vb I S)
 rw [eval_ListComp]
 refine wpAny_comprehension_free (use:=none) rfl hs Dm S.kind S.names ?_
 refine cb (hi pins s σ H _ I h) fun v s1 h1=>cb h1 fun Vf s2 h2=>?_
 obtain ⟨it,fp,tn,J,H2,e,I2,T,Cw,f2,q2⟩:=h2
 subst e
 refine va (E:=X.xe) (RR:=fun acc C=>compPost (model X.prog X.w) X.A X.xe none (EP X pins σ Q) acc C) hc I2 T Cw f2 S c1 c2 (fun C=>hg cl C fp s2 H2) (fun C=>ht cl C fp s2 H2) (fun C=>he cl C fp s2 H2) (q2 _ (I2.bV.fresh (cA _))) ?_
 intro C H' s' σ' hC J' q'
 obtain ⟨m,hn,_⟩:=J'.loc
 refine ⟨m,hn,fun h' sb=>?_⟩
 have I':=u_ I2 f2 J'
 have fk:=I2.qi (H':=H') hC J'.free
 obtain ⟨f0,f1,_,f3,f4,f5⟩:=fk
 exact ⟨.ref _,H',I'.turned (t':=s'.toks) (fun b o hb e=>(sb.2 b hb).trans e) f0 f1 f3 f4 f5,rfl,q'⟩
theorem HF {i:Nat} {y:Str} {py:Pos} {vd:Pos} {elt iter tg:Expr} {ifs:List Expr} {pos:Pos} {wi:TI} {g:TG} {tt:TT} {te:TE} (hN:X.N.Nodup) (hy:X.N[i]?=some y) (hx:Loc X.env.scope y) (hc:X.calm=true) (hS:ka X.N ts X.env.scope sc=true) (hi:PI X tg iter wi)
  (hg:∀ cl C fp s H,PG (bt X ts sc cl C fp s H) tg g) (ht:∀ cl C fp s H,GH (bt X ts sc cl C fp s H) ifs tt) (he:∀ cl C fp s H,PE (bt X ts sc cl C fp s H) elt te)
  (QW:swapsWith (.ListComp elt [⟨tg,iter,ifs,0⟩] sc pos) (some (.Name y py)) vd.line X.env=pure true:=by rfl)
  (hs:∀ x,foldedSetIterable iter X.env x=pure x:=by intro _; rfl) (hf:X.fn y=true∨X.env.scope.names.lookup y=some .local:=by first | exact .inl rfl | exact .inr rfl | assumption) :
  PS X (.Assign [.Name y py] (.ListComp elt [⟨tg,iter,ifs,0⟩] sc pos) vd) (He (Dl ts.length wi g tt te) (jf i)):=by
 intro pins s σ H D I h
 have S:=rF hS
 obtain ⟨cl,Dm,c1,c2⟩:=i0 (vb I S)
 rw [exec_Assign_Name_used _ _ _ _ QW]
 refine wpAny_bind (wpAny_standAt (wpAny_bind ?_))
 show wpAny _ X.A (do let _ ← comprehension (.ListComp elt [⟨tg,iter,ifs,0⟩] sc pos) sc X.env _ (newList []) false (eval iter X.env) (some (assign (.Name y py) X.env))) _ _ s
 refine wpAny_bind (wpAny_mono (wpAny_comprehension_free (use:=some (assign (.Name y py) X.env)) (Q:=fun _ s'=>SP X pins D .next s') (E:=X.xe) rfl hs Dm S.kind S.names ?_) (fun _ s' hq=>wpAny_pure (wpAny_pure hq)) fun _ _ e=>e)
 refine cb (hi pins s σ H _ I h) fun v s1 h1=>cb h1 fun Vf s2 h2=>?_
 obtain ⟨it,fp,tn,J,H2,e,I2,T,Cw,f2,q2⟩:=h2
 subst e
 refine va (E:=X.xe) (RR:=fun acc C=>compPost (model X.prog X.w) X.A X.xe (some (assign (.Name y py) X.env)) (fun _ s'=>SP X pins D .next s') acc C) hc I2 T Cw f2 S c1 c2 (fun C=>hg cl C fp s2 H2) (fun C=>ht cl C fp s2 H2) (fun C=>he cl C fp s2 H2) (q2 _ (I2.bV.fresh (cA _))) ?_
 intro C H' s' σ' hC J' q'
 obtain ⟨m,hn,_⟩:=J'.loc
 have I':=u_ I2 f2 J'
 have fk:=I2.qi (H':=H') hC J'.free
 obtain ⟨f0,f1,_,f3,f4,f5⟩:=fk
 show wpAny _ X.A (assign (.Name y py) X.env (.ref s2.heap.objs.size)) _ _ s'
 refine wpAny_assign_Name (rm (v:=.ref s2.heap.objs.size) I' hN hy hx rfl (fun s3 I3 ⟨a,sb,ha⟩=>?_) hf)
 have hCa:C≠a:=by
  rcases ha with z | z
  · rw [z]; exact f1
  · exact fun e=>f4 y a z e.symm
 refine ⟨m,hn.sameBut sb hCa,fun h' sb'=>?_⟩
 exact ⟨_,H',I3.turned (t':=s3.toks) (fun b o hb e=>(sb'.2 b hb).trans e) f0 f1 f3 f4 f5,q'⟩
end
noncomputable def Vn (x:Str):It:=⟨fun i _=>i < x.cps.size,fun i H v H'=>H'=H∧∃ c,x.cps[i]?=some c∧v = .str ⟨#[c]⟩,fun i _=>x.cps.size≤i⟩
theorem c9 (x:Str):(strIterType x="str_ascii_iterator")∨(strIterType x="str_iterator"):=by
 unfold strIterType
 cases x.cps.all (· < 128)
 · exact .inr rfl
 · exact .inl rfl
theorem Dn {P:Program} {w:World} {K:PySem.W.Frag} {tg:Expr} (x:Str) (t:Tok) (it:Addr):Turn P w K tg (Vn x) [it] it (fun i h=>h.IsStrIter it (strIterType x) x t i) where
 mem:=by simp
 obj:=fun i h st b hb=>by
  have e:b=it:=by simpa using hb
  subst e
  obtain ⟨o,e,c,d⟩:=st
  exact ⟨o,e,fun v z=>by rw [d] at z; cases z⟩
 keep:=fun i h h' st k=>by
  obtain ⟨o,e,c,d⟩:=st
  exact ⟨o,k it (by simp) o e,c,d⟩
 item:=by
  intro X hP hw hK hc i pins s σ H E I hf st hg
  subst hP hw hK
  obtain ⟨f0,f1,f2,f3,f4,f5⟩:=hf it (by simp)
  have hi:i < x.cps.size:=hg
  have hx:x.cps[i]?=some x.cps[i]:=by simp [hi]
  have fin:∀ h',h'.IsStrIter it (strIterType x) x t (i+1)→Heap.SameBut it s.heap h'→∃ u,(some (Value.str ⟨#[x.cps[i]]⟩ s.toks):Option Value)=some u ∧
    wpAny (model X.prog X.w) X.A (letOwnedTupleGo tg (.ref it) u) (fun _ s2=>∃ y H',Inv X pins σ H' s2∧RelV y u∧(Vn x).Qe i H y H'∧Heap.IsStrIter s2.heap it (strIterType x) x t (i+1)∧∀ b∈[it],H' b=none) E { s with heap:=h',toks:=s.toks+1 }:=fun h' xO sb=>by
   have I1:Inv X pins σ H { s with heap:=h',toks:=s.toks+1 }:=I.turned (t':=s.toks+1) (fun b o hb e=>(sb.2 b hb).trans e) f0 f1 f3 f4 f5
   obtain ⟨o,e,c,d⟩:=id xO
   refine ⟨_,rfl,zt (s:={ s with heap:=h',toks:=s.toks+1 }) e c d ?_ ⟨.str ⟨#[x.cps[i]]⟩,H,I1,⟨_,rfl⟩,⟨rfl,_,hx,rfl⟩,xO,fun b hb=>(hf b hb).1⟩⟩
   rcases c9 x with z | z <;> rw [z] <;> decide
  rcases c9 x with z | z
  · rw [z] at st fin
    refine wpAny_pyNext_ascii_item st hx fun h' xO sb=>?_
    have:=fin h' xO sb
    rw [← z] at this
    simpa [z] using this
  · rw [z] at st fin
    refine wpAny_pyNext_wide_item st hx fun h' xO sb=>?_
    have:=fin h' xO sb
    simpa [z] using this
 done:=by
  intro X hP hw hK hc i pins s σ H E I hf st hg
  subst hP hw hK
  obtain ⟨f0,f1,f2,f3,f4,f5⟩:=hf it (by simp)
  have hi:x.cps.size≤i:=hg
  have hx:x.cps[i]?=none:=by simp [hi]
  rcases c9 x with z | z
  · rw [z] at st
    exact wpAny_pyNext_ascii_end (I.ok.hd hc) st hx fun h' eb=>⟨rfl,I.turned (t':=s.toks) (fun b o hb e=>eb b o hb e) f0 f1 f3 f4 f5⟩
  · rw [z] at st
    exact wpAny_pyNext_wide_end (I.ok.hd hc) st hx fun h' eb=>⟨rfl,I.turned (t':=s.toks) (fun b o hb e=>eb b o hb e) f0 f1 f3 f4 f5⟩
 self:=fun A i s Q E st h=>by
  rcases c9 x with z | z
  · rw [z] at st; exact wpAny_pyIter_striter_ascii st h
  · rw [z] at st; exact wpAny_pyIter_striter_wide st h
section
variable {X:Cx} {tg:Expr}
theorem dG (hc:X.calm=true):c8 X (.builtin "all") (fun xs H Q=>∃ (p:Addr) (bs:List Bool),xs=[.ref p]∧gy X.K H p (bs.map V.bl)∧Q (.bl (bs.all id)) H):=by
 intro pins s σ H xs us Q I r h
 obtain ⟨p,bs,rfl,hq,q⟩:=h
 obtain ⟨u,rfl,rx⟩:=vals1 r
 cases rx
 obtain ⟨aP,rv,pl,hz⟩:=I.list hq
 refine call_all_walk (wpAny_pyIter_list pl.isList ?_)
 have gz:p < s.heap.objs.size:=by obtain ⟨o,n,e,_⟩:=pl; exact fM e
 have gG:p≠s.heap.objs.size:=je gz
 have hh:X.A.in1.handled=none:=I.ok.hd hc
 refine ⟨s.heap.objs.size,_,_,_,_,_,fun i=>bs.getD i true,rfl,Walks.list hh s.heap.objs.size p gG aP.toArray,⟨⟨_,mZ _ rfl,rfl,rfl⟩,pl.isList.push _⟩,?_,fun h' tk k=>?_⟩
 · intro i v s' Q' E' hP hQ
   have ZY:aP[i]?=some v:=by simpa using hP
   have hb:i < bs.length:=by
    have:=rv.length
    have h2:=(cn.mp ZY).1
    rw [b_] at this
    omega
   obtain ⟨u,e1,r1⟩:=rv.get (i:=i) (x:=.bl bs[i]) (by simp [hb])
   rw [ZY] at e1
   cases e1
   obtain rfl:v=Value.bool bs[i]:=r1
   have e3:bs.getD i true=bs[i]:=by simp [List.getD,hb]
   dsimp only at hQ; rw [e3] at hQ
   exact wpAny_truthy_bool hQ
 · have hl:aP.toArray.size=bs.length:=by have:=rv.length; rw [b_] at this; rw [g8]; omega
   have e:(List.range aP.toArray.size).all (fun i=>bs.getD i true)=bs.all id:=by
    rw [hl,G1,G0,G0]
    constructor
    · intro h x hx
      obtain ⟨i,hi,e⟩:=List.mem_iff_getElem.mp hx
      have:=h i (Cp.mpr hi)
      simp only [List.getD,fD hi,Option.getD_some] at this
      rw [← e]; exact this
    · intro h i hi
      have Dp:=Cp.mp hi
      simp only [List.getD,fD Dp,Option.getD_some]
      exact h _ (Ll Dp)
   rw [e]
   refine ⟨.bl (bs.all id),H,?_,rfl,q⟩
   have I0:Inv X pins σ H { s with heap:=s.heap.push { cls:=.type "list_iterator",data:=.fields #[.ref p,.int 0 0] } }:=I.kept (t':=s.toks) fun b o e=>fF _ e
   have fk:=I.qi (H':=H) (cA s.heap.objs.size) I.fresh
   obtain ⟨f0,f1,_,f3,f4,f5⟩:=fk
   exact I0.turned (t':=tk) (fun b o hb e=>k b o (by simpa using hb) e) f0 f1 f3 f4 f5
theorem qm:Hw X "str.startswith" (fun x xs H Q=>∃ z y,x = .str z∧xs=[.str y]∧Q (.bl (Txt.startswith z y)) H):=by
 intro pins s σ H x xs v us Q I rx rs h
 obtain ⟨z,y,rfl,rfl,q⟩:=h
 obtain ⟨t,rfl⟩:=rx
 obtain ⟨u,rfl,t',rfl⟩:=vals1 rs
 exact SC.startswith ⟨.bl _,H,I,rfl,q⟩
theorem oC:∀ {ys:List Str} {us:List Value},Vals (ys.map V.str) us→StrsAre us ys
 | [],us,r=>by rw [Cs] at r; cases r; exact .nil
 | y :: ys,us,r=>by
   rw [g9] at r
   cases r with
   | cons r1 r2 =>
     obtain ⟨t,e⟩:=r1
     subst e
     exact .cons y t (oC r2)
theorem HG:Hw X "str.join" (fun x xs H Q=>∃ (z:Str) (p:Addr) (ys:List Str),x = .str z∧xs=[.ref p]∧gy X.K H p (ys.map V.str)∧(ys.map (·.length)).sum+ys.length * z.length≤16777216∧Q (.str (Txt.join z ys)) H):=by
 intro pins s σ H x xs v us Q I rx rs h
 obtain ⟨z,p,ys,rfl,rfl,hq,hz,q⟩:=h
 obtain ⟨t,rfl⟩:=rx
 obtain ⟨u,rfl,r1⟩:=vals1 rs
 cases r1
 obtain ⟨aP,rv,pl,_⟩:=I.list hq
 exact join_list pl.isList (by simpa using oC rv) hz fun t' k=>⟨.str _,H,I.tok _,⟨_,rfl⟩,q⟩
noncomputable def QX:V→Option Int→Option Int→Hp→VK→Prop:=fun x lo hi H Q=>∃ z,x = .str z∧z.length≤sizeLine∧Q (.str (Txt.slice z lo hi)) H
theorem Mj:C7 X QX:=by
 intro pins s σ H x v vl vu lo hi sl Q I rx hs pl pu h
 obtain ⟨z,rfl,hz,q⟩:=h
 obtain ⟨t,rfl⟩:=rx
 obtain ⟨o,e,c,d⟩:=hs
 refine ⟨"str",_,slot_str_getitem.lookup,typeIs_str _ _ _,?_⟩
 cases pl with
 | none =>
   cases pu with
   | none=>exact wpAny_getItem_str_slice (l:=none) (u:=none) (st:=none) ⟨o,e,c,d⟩ rfl (post_val_or_str ⟨nI (Txt.slice_le z _ _) hz,fun t' k=>⟨.str _,H,I.tok _,⟨_,rfl⟩,q⟩⟩)
   | int j tj=>exact wpAny_getItem_str_slice (l:=none) (u:=some (j,tj)) (st:=none) ⟨o,e,c,d⟩ rfl (post_val_or_str ⟨nI (Txt.slice_le z _ _) hz,fun t' k=>⟨.str _,H,I.tok _,⟨_,rfl⟩,q⟩⟩)
 | int i ti =>
   cases pu with
   | none=>exact wpAny_getItem_str_slice (l:=some (i,ti)) (u:=none) (st:=none) ⟨o,e,c,d⟩ rfl (post_val_or_str ⟨nI (Txt.slice_le z _ _) hz,fun t' k=>⟨.str _,H,I.tok _,⟨_,rfl⟩,q⟩⟩)
   | int j tj=>exact wpAny_getItem_str_slice (l:=some (i,ti)) (u:=some (j,tj)) (st:=none) ⟨o,e,c,d⟩ rfl (post_val_or_str ⟨nI (Txt.slice_le z _ _) hz,fun t' k=>⟨.str _,H,I.tok _,⟨_,rfl⟩,q⟩⟩)
end
theorem aU {H:Hp} {D:Addr} {o:HO} (h:H D=none):aX H (upd H D o):=fun b u e=>by rw [aW (bh e h)]; exact e
section
variable {X:Cx} {pins:List (Addr×Obj)} {σ:St} {H H':Hp} {s:Shared} {h':Heap}
theorem Inv.grown {t':Nat} {ch:List Addr} {t:Addr} {o:HO} (I:Inv X pins σ H s) (k:∀ b u,b∉ch→s.heap.get? b=some u→h'.get? b=some u) (hf:∀ b∈ch,lZ X pins H b) (ht:s.heap.objs.size≤t)
  (new:bX X.prog X.w (upd H t o) h' t o):Inv X pins σ (upd H t o) { s with heap:=h',toks:=t' }:=by
 have hn:H t=none:=I.bV.fresh ht
 have CP:∀ b u,H b=some u→b∉ch:=fun b u e z=>by rw [(hf b z).1] at e; cases e
 refine I.step (g':=s.gens) (d':=s.drawn) (ch:=ch) (fun b hb=>?_) (fun b u _ _ hc e _=>k b u hc e) (fun b u _ _ hc e _=>⟨u.slots,k b u hc e⟩) (fun b u _ e n=>?_) (fun b u hc e=>⟨u,k b u hc e⟩)
  (fun b xs e=>?_) (fun b u v e=>?_) (fun b ps e=>⟨#[],?_⟩) (fun m hm=>?_) (fun b u e=>?_) I.bare
 · obtain ⟨_,f1,_,f3,f4,f5⟩:=hf b hb
   exact ⟨f3,f1,f4,f5⟩
 · rw [aW (je (rf (fM e) ht))]; exact n
 · rw [aW (bh e hn)]; exact e
 · rw [aW (bh e hn)]; exact e
 · rw [aW (bh e hn),e]; simp
 · obtain ⟨ob,es,ep,ho,r⟩:=hm
   exact ⟨ob,es,ep,k _ ob (fun z=>(hf _ z).2.1 rfl) ho,r⟩
 · by_cases hb:b=t
   · subst hb; rw [a_] at e; cases e; exact new
   · rw [aW hb] at e
     refine (I.bV b u e).xJ (fun c v hc q=>k c v ?_ q) (fun c q=>by rw [aW (bh q hn)]; exact q) fun c xs q=>by rw [aW (bh q hn)]; exact q
     rcases hc with z | z
     · rw [z]; exact CP b u e
     · exact CP c _ z
end
noncomputable def Xe (K:PySem.W.Frag) (a:Addr):It :=
 ⟨fun i H=>∃ xs x,gy K H a xs∧xs[i]?=some x,fun i H v H'=>∃ t x,H t=none∧v = .ref t∧(∀ xs,gy K H a xs→xs[i]?=some x)∧H'=upd H t (.tup [.int (i:Int),x]),fun i H=>∃ xs,gy K H a xs∧xs.length≤i⟩
theorem AX {P:Program} {w:World} {K:PySem.W.Frag} {elts:List Expr} {x1} {tp:Pos} (a e it:Addr) (gG:e≠it) :
  Turn P w K (.Tuple elts x1 tp) (Xe K a) [e,it] e (fun i h=>(∃ old,IsEnum h e it (i:Int) old)∧h.IsListIter it a i) where
 mem:=by simp
 obj:=fun i h st b hb=>by
  obtain ⟨⟨old,h1⟩,o,h2,c,d⟩:=st
  rcases cZ.mp hb with z | z
  · subst z
    exact ⟨_,h1,fun v z=>by cases z⟩
  · have z':b=it:=by simpa using z
    subst z'
    exact ⟨o,h2,fun v z=>by rw [d] at z; cases z⟩
 keep:=fun i h h' st k=>by
  obtain ⟨⟨old,h1⟩,Cw⟩:=st
  exact ⟨⟨old,k e (by simp) _ h1⟩,Cw.at fun o q=>k it (by simp) o q⟩
 item:=by
  intro X hP hw hK hc i pins s σ H E I hf st hg
  subst hP hw hK
  obtain ⟨xs,x,hq,hx⟩:=hg
  obtain ⟨aP,rv,p,hz⟩:=I.list hq
  obtain ⟨u,hu,ru⟩:=rv.get hx
  obtain ⟨⟨old,h1⟩,Cw⟩:=st
  refine wpAny_pyNext_enum_item h1 Cw p.isList (x:=u) (by simpa using hu) gG fun h₁ Kg Xf ht₁ Dq hk₁=>?_
  refine ⟨_,rfl,wpAny_letOwnedTupleGo_enum Kg fun h₂ he₂ qo=>?_⟩
  have qp:Heap.SameBut e h₁ h₂:=qo
  have gz:e < s.heap.objs.size:=fM h1
  have Xg:s.heap.objs.size≠e:=Gz gz
  have kk:∀ b ob,b∉[e,it]→s.heap.get? b=some ob→h₂.get? b=some ob:=fun b ob hb q=>by
   have Ct:b≠e:=fun z=>hb (by simp [z])
   have Xh:b≠it:=fun z=>hb (by simp [z])
   exact (qp.2 b Ct).trans (hk₁ b ob Ct Xh q)
  have new:bX X.prog X.w (upd H s.heap.objs.size (.tup [.int (i:Int),x])) h₂ s.heap.objs.size (.tup [.int (i:Int),x]) :=
   ⟨by show 2≤sizeLine; rw [sizeLine_eq]; decide,[.int i s.toks,u],.cons ⟨_,rfl⟩ (.cons ru .nil),⟨_,(qp.2 _ Xg).trans ht₁,rfl,_,rfl⟩⟩
  refine ⟨.ref s.heap.objs.size,upd H s.heap.objs.size (.tup [.int (i:Int),x]),I.grown (t':=s.toks+1) kk hf (cA _) new,rfl,⟨_,x,I.fresh,rfl,fun ys hy=>by rw [I.kG hy hq]; exact hx,rfl⟩,⟨⟨u,?_⟩,?_⟩,fun b hb=>?_⟩
  · have:((i:Int)+1)=((i+1:Nat):Int):=by omega
    rw [← this]; exact he₂
  · obtain ⟨o,q,r⟩:=Xf
    exact ⟨o,(qp.2 it (Ne.symm gG)).trans q,r⟩
  · have Vo:b < s.heap.objs.size:=by
     rcases cZ.mp hb with z | z
     · subst z; exact gz
     · have z':b=it:=by simpa using z
       subst z'
       obtain ⟨o,q,_⟩:=Cw
       exact fM q
    rw [aW (je Vo)]
    exact (hf b hb).1
 done:=by
  intro X hP hw hK hc i pins s σ H E I hf st hg
  subst hP hw hK
  obtain ⟨xs,hq,hx⟩:=hg
  obtain ⟨aP,rv,p,hz⟩:=I.list hq
  have hl:=rv.length
  obtain ⟨⟨old,h1⟩,Cw⟩:=st
  obtain ⟨f0,f1,f2,f3,f4,f5⟩:=hf it (by simp)
  exact wpAny_pyNext_enum_end (I.ok.hd hc) h1 Cw p.isList (by simp; omega) fun h' eb=>⟨rfl,I.turned (t':=s.toks) (fun b o hb q=>eb b o hb q) f0 f1 f3 f4 f5⟩
 self:=fun _ _ _ _ _ st h=>by
  obtain ⟨⟨old,h1⟩,_⟩:=st
  exact wpAny_pyIter_enum h1 h
noncomputable def QY (K:PySem.W.Frag) (ta:TA):TI:=fun σ H R=>ta σ H fun vs H1=>∃ a,vs=[.ref a]∧(∃ xs,gy K H1 a xs)∧R (Xe K a) H1
section
variable {X:Cx}
theorem boot_enumerate:bootBuiltins "enumerate" = some (.type "enumerate"):=by decide +kernel
theorem HH {elts:List Expr} {x1} {tp:Pos} {a:Expr} {ta:TA} {p pos:Pos} (hg:Gl X "enumerate") (hm:X.mg "enumerate" = none) (ha:PA X [a] ta) (hs:starEach [a] X.env=[(false,eval a X.env)]:=by rfl) :
  PI X (.Tuple elts x1 tp) (.Call (.Name "enumerate" p) [a] [] pos) (QY X.K ta):=by
 intro pins s σ H R I h
 refine Call_ (j9 I hg hm boot_enumerate (PL (cb (ha pos pins s σ H _ I h) fun us s1 ⟨vs,H1,I1,r1,q1⟩=>?_) hs rfl))
 obtain ⟨b,e,⟨xs,hq⟩,q⟩:=q1
 subst e
 obtain ⟨u,rfl,ru⟩:=vals1 r1
 cases ru
 obtain ⟨aP,rv,pl,hz⟩:=I1.list hq
 refine call_enumerate_list pl.isList fun h' he hit zv hk=>?_
 have I2:Inv X pins σ H1 { s1 with heap:=h' }:=I1.kept (t':=s1.toks) hk
 refine wpAny_pyIter_enum he ?_
 refine ⟨s1.heap.objs.size+1,[s1.heap.objs.size+1,s1.heap.objs.size],_,_,H1,rfl,I2,AX b _ _ (Gz (xv _)),⟨⟨_,he⟩,hit⟩,fun c hc=>?_,q⟩
 rcases cZ.mp hc with z | z
 · subst z; exact I1.qi (Lo _) (I1.bV.fresh (Lo _))
 · have z':c=s1.heap.objs.size:=by simpa using z
   subst z'; exact I1.qi (cA _) I1.fresh
end
section
variable {X:Cx}
theorem qq (hc:X.calm=true):c8 X (.builtin "sum") (fun xs H Q=>∃ (p:Addr) (ns:List Int),xs=[.ref p]∧gy X.K H p (ns.map V.int)∧Q (.int ns.sum) H):=by
 intro pins s σ H xs us Q I r h
 obtain ⟨p,ns,rfl,hq,q⟩:=h
 obtain ⟨u,rfl,rx⟩:=vals1 r
 cases rx
 obtain ⟨aP,rv,pl,hz⟩:=I.list hq
 have hI:IntsAre aP ns:=intsAre_of rv
 obtain ⟨xs,e⟩:=hI.allInts.items
 have hn:=hI.numsOf
 have hl:s.heap.IsList p (intItems xs):=by rw [← e]; exact pl.isList
 refine sum_intListG (I.ok.hd hc) hl fun h' tk t' hk=>?_
 have e2:preSum (numAt xs) xs.size=ns.sum:=by
  rw [preSum_eq,List.take_of_length_le (by simp),← nums_intItems,← e,List.toList_toArray,hn]
 rw [e2]
 exact ⟨.int ns.sum,H,I.kept hk,⟨_,rfl⟩,q⟩
end
end L2
namespace Dr
open PySem Builtin Builtin.Str
noncomputable def bF:Str:="abcdefghijklmnopqrstuvwxyz"
noncomputable def GI (c:Nat):Bool:=!(occurrences bF ⟨#[c]⟩ 0 bF.length 1).isEmpty
theorem ya:(("." : String):Str)=⟨#[46]⟩:=by decide +kernel
noncomputable def dy (x:Str):Bool:=decide (1≤(x.length:Int)) && (decide ((x.length:Int)≤8) && x.cps.toList.all GI)
noncomputable def sN (x:Str):Bool:=Txt.startswith x "." && dy (Txt.slice x (some 1) none)
theorem yb (x:Str):Txt.startswith (("." : String) ++ x) "." = true:=by
 obtain ⟨⟨l⟩⟩:=x
 rw [ya]
 unfold Txt.startswith subAt
 rw [kB]
 refine ⟨?_,?_⟩
 · apply decide_eq_true
   show 0+1≤(#[46] ++ ({ toList:=l }:Array Nat)).size
   simp
 · show (Array.extract (#[46] ++ ({ toList:=l }:Array Nat)) 0 (0+1) == #[46])=true
   rw [beq_iff_eq]
   apply Array.ext'
   simp
theorem AY (x:Str):Txt.slice (("." : String) ++ x) (some 1) none=x:=by
 obtain ⟨⟨l⟩⟩:=x
 rw [ya]
 have hl:(Str.length (Str.mk #[46] ++ Str.mk { toList:=l }))=l.length+1:=by
  show (#[46] ++ ({ toList:=l }:Array Nat)).size=_
  simp
 have hi:strSliceIndices (some 1) none 1 (l.length+1)=(List.range l.length).map (fun k=>k+1):=by
  unfold strSliceIndices sliceRange
  simp only [show (1:Int) > 0 by decide,if_true]
  have e0:max 0 (min (if (1:Int) < 0 then 1+((l.length+1:Nat):Int) else 1) ((l.length+1:Nat):Int))=1:=by
   rw [if_neg (by decide)]; omega
  rw [e0]
  by_cases hn:l.length=0
  · rw [hn]; rfl
  · have e1:((1:Int) < ((l.length+1:Nat):Int)):=by omega
    rw [if_pos e1]
    have e2:((((l.length+1:Nat):Int) - 1+1 - 1) / 1).toNat=l.length:=by
     rw [Int.ediv_one]; omega
    rw [e2]
    apply PR
    intro k hk
    omega
 unfold Txt.slice
 rw [hl,hi]
 have gG:¬ (((1:Int) == 1 && (List.map (fun k=>k+1) (List.range l.length)).length == l.length+1)=true):=by
  rw [kB,b_,GY]
  intro q
  have:=beq_iff_eq.mp q.2
  omega
 rw [if_neg gG]
 congr 1
 apply Array.ext'
 rw [List.toList_toArray]
 show List.filterMap (fun i=>(#[46] ++ ({ toList:=l }:Array Nat))[i]?) (List.map (fun k=>k+1) (List.range l.length))=l
 rw [List.filterMap_map]
 have e:∀ k,((fun i=>(#[46] ++ ({ toList:=l }:Array Nat))[i]?) ∘ fun k=>k+1) k=l[k]?:=fun k=>by
  show (#[46] ++ ({ toList:=l }:Array Nat))[k+1]?=l[k]?
  rw [← Array.getElem?_toList]
  simp
 rw [show ((fun i=>(#[46] ++ ({ toList:=l }:Array Nat))[i]?) ∘ fun k=>k+1)=fun k=>l[k]? from funext e]
 clear e gG hi hl
 induction l with
 | nil=>rfl
 | cons a r ih =>
   rw [Ax,List.range_succ_eq_map,nX]
   simp only [Wa,List.filterMap_map]
   congr 1
theorem AZ {x:Str} (h:dy x=true):sN (("." : String) ++ x)=true:=by
 unfold sN
 rw [yb,AY,h]
 rfl
theorem HI (x:Str):((("." : String):Str) ++ x).length=x.length+1:=by
 rw [ya]
 show (#[46] ++ x.cps).size=_
 simp [Str.length]
 omega
end Dr
namespace VT
open PySem PySem.Spec PyProof.Rows L2
noncomputable abbrev St:=L2.St
inductive T where
 | bb | bl (b:Bool) | int (i:Int) | str (x:Str) | tup (l:List T) | lst (l:List T) | dk (ks:List Key) (vs:List T) | dt (ks:List (List Key)) (vs:List T) | df (o:Obj) (ks:List (List Key)) (vs:List T) | dz (o:Obj) (ks:List Key) (vs:List T) | kt (k:List Key) | ins (C:Addr) (ns:List Str) (vs:List T) | pin (a:Addr) (t:T) | ob (a:Addr) | ty (n:String)
noncomputable def qr (K:PySem.W.Frag) (H:Hp) (O:List Addr) (a:Addr) (vs:List V):Prop :=
 (Rd H a (.lst vs)∧a∉O)∨∃ (o:Obj) (aP:Array Value) (n:Nat),K.lookup a=some o∧o.cls = .type "list"∧o.dict=none∧o.data = .seq aP n∧aP.size≤sizeLine∧Vals vs aP.toList
theorem qr.sq {K:PySem.W.Frag} {H:Hp} {O:List Addr} {a:Addr} {vs:List V} (h:qr K H O a vs):gy K H a vs:=by
 rcases h with h | h
 · exact .inl h.1
 · exact .inr h
noncomputable def qt (H:Hp) (O:List Addr) (a:Addr) (u:HO):Prop:=H a=some u∧a∉O
mutual
noncomputable def At (K:PySem.W.Frag) (H:Hp) (O:List Addr):T→V→Prop
 | .bb,v=>v = .bb
 | .bl b,v=>v = .bl b
 | .int i,v=>v = .int i
 | .str x,v=>v = .str x
 | .ob a,v=>v = .ref a
 | .ty n,v=>v = .ty n
 | .tup ts,v=>∃ a vs,v = .ref a∧dZ K H a vs∧aA K H O ts vs
 | .lst ts,v=>∃ a vs,v = .ref a∧qr K H O a vs∧aA K H O ts vs
 | .dk ks ts,v=>∃ a vs,v = .ref a∧ks.length=vs.length∧qt H O a (.dK (ks.zip vs))∧aA K H O ts vs
 | .dt ks ts,v=>∃ a vs,v = .ref a∧ks.length=vs.length∧qt H O a (.dT (ks.zip vs))∧aA K H O ts vs
 | .df o ks ts,v=>∃ a vs,v = .ref a∧ks.length=vs.length∧qt H O a (.uR o (.dT (ks.zip vs)))∧aA K H O ts vs
 | .dz o ks ts,v=>∃ a vs,v = .ref a∧ks.length=vs.length∧qt H O a (.uR o (.dK (ks.zip vs)))∧aA K H O ts vs
 | .kt k,v=>∃ a,v = .ref a∧qt H O a (.tup (k.map kV))
 | .pin a t,v=>v = .ref a∧At K H O t v
 | .ins C ns ts,v=>∃ a dx vs,v = .ref a∧ns.length=vs.length∧qt H O a (.ins C dx (ns.zip vs))∧aA K H O ts vs
noncomputable def aA (K:PySem.W.Frag) (H:Hp) (O:List Addr):List T→List V→Prop
 | [],vs=>vs=[]
 | t :: ts,vs=>∃ v r,vs=v :: r∧At K H O t v∧aA K H O ts r
end
section
variable {K:PySem.W.Frag} {H H':Hp} {O O':List Addr}
mutual
theorem At.map (hl:∀ a vs,qr K H O a vs→qr K H' O' a vs) (ht:∀ a vs,dZ K H a vs→dZ K H' a vs) (hd:∀ a u,qt H O a u→qt H' O' a u):∀ {t:T} {v:V},At K H O t v→At K H' O' t v
 | .bb,_,h=>by simpa only [At] using h
 | .bl _,_,h=>by simpa only [At] using h
 | .int _,_,h=>by simpa only [At] using h
 | .str _,_,h=>by simpa only [At] using h
 | .ob _,_,h=>by simpa only [At] using h
 | .ty _,_,h=>by simpa only [At] using h
 | .tup ts,_,h=>by
   simp only [At] at h ⊢
   obtain ⟨a,vs,e,h1,h2⟩:=h
   exact ⟨a,vs,e,ht a vs h1,aA.map hl ht hd h2⟩
 | .lst ts,_,h=>by
   simp only [At] at h ⊢
   obtain ⟨a,vs,e,h1,h2⟩:=h
   exact ⟨a,vs,e,hl a vs h1,aA.map hl ht hd h2⟩
 | .dk ks ts,_,h=>by
   simp only [At] at h ⊢
   obtain ⟨a,vs,e,h0,h1,h2⟩:=h
   exact ⟨a,vs,e,h0,hd _ _ h1,aA.map hl ht hd h2⟩
 | .dt ks ts,_,h=>by
   simp only [At] at h ⊢
   obtain ⟨a,vs,e,h0,h1,h2⟩:=h
   exact ⟨a,vs,e,h0,hd _ _ h1,aA.map hl ht hd h2⟩
 | .df o ks ts,_,h=>by
   simp only [At] at h ⊢
   obtain ⟨a,vs,e,h0,h1,h2⟩:=h
   exact ⟨a,vs,e,h0,hd _ _ h1,aA.map hl ht hd h2⟩
 | .dz o ks ts,_,h=>by
   simp only [At] at h ⊢
   obtain ⟨a,vs,e,h0,h1,h2⟩:=h
   exact ⟨a,vs,e,h0,hd _ _ h1,aA.map hl ht hd h2⟩
 | .kt k,_,h=>by
   simp only [At] at h ⊢
   obtain ⟨a,e,h1⟩:=h
   exact ⟨a,e,hd _ _ h1⟩
 | .pin a t,_,h=>by
   simp only [At] at h ⊢
   exact ⟨h.1,At.map hl ht hd h.2⟩
 | .ins C ns ts,_,h=>by
   simp only [At] at h ⊢
   obtain ⟨a,dx,vs,e,h0,h1,h2⟩:=h
   exact ⟨a,dx,vs,e,h0,hd _ _ h1,aA.map hl ht hd h2⟩
theorem aA.map (hl:∀ a vs,qr K H O a vs→qr K H' O' a vs) (ht:∀ a vs,dZ K H a vs→dZ K H' a vs) (hd:∀ a u,qt H O a u→qt H' O' a u):∀ {ts:List T} {vs:List V},aA K H O ts vs→aA K H' O' ts vs
 | [],_,h=>by simpa only [aA] using h
 | t :: ts,_,h=>by
   simp only [aA] at h ⊢
   obtain ⟨v,r,e,h1,h2⟩:=h
   exact ⟨v,r,e,At.map hl ht hd h1,aA.map hl ht hd h2⟩
end
theorem Rd.same {a:Addr} {u:HO} (s:aX H H') (h:Rd H a u):Rd H' a u:=by
 rcases h with h | ⟨o,h⟩
 · exact .inl (s _ _ h)
 · exact .inr ⟨o,s _ _ h⟩
theorem dZ.same {a:Addr} {vs:List V} (s:aX H H') (h:dZ K H a vs):dZ K H' a vs:=by
 rcases h with h | h
 · exact .inl (Rd.same s h)
 · exact .inr h
theorem qr.same {a:Addr} {vs:List V} (s:aX H H') (h:qr K H O a vs):qr K H' O a vs:=by
 rcases h with h | h
 · exact .inl ⟨Rd.same s h.1,h.2⟩
 · exact .inr h
theorem At.same {t:T} {v:V} (s:aX H H') (h:At K H O t v):At K H' O t v:=At.map (fun _ _ q=>q.same s) (fun _ _ q=>dZ.same s q) (fun _ _ q=>⟨s _ _ q.1,q.2⟩) h
theorem aA.same {t:List T} {v:List V} (s:aX H H') (h:aA K H O t v):aA K H' O t v:=aA.map (fun _ _ q=>q.same s) (fun _ _ q=>dZ.same s q) (fun _ _ q=>⟨s _ _ q.1,q.2⟩) h
theorem At.bo {t:T} {v:V} (s:∀ a∈O',a∈O) (h:At K H O t v):At K H O' t v :=
 At.map (fun a vs q=>q.elim (fun z=>.inl ⟨z.1,fun m=>z.2 (s a m)⟩) .inr) (fun _ _ q=>q) (fun a _ q=>⟨q.1,fun m=>q.2 (s a m)⟩) h
theorem aA.bo {t:List T} {v:List V} (s:∀ a∈O',a∈O) (h:aA K H O t v):aA K H O' t v :=
 aA.map (fun a vs q=>q.elim (fun z=>.inl ⟨z.1,fun m=>z.2 (s a m)⟩) .inr) (fun _ _ q=>q) (fun a _ q=>⟨q.1,fun m=>q.2 (s a m)⟩) h
theorem Rd.some {a:Addr} {u:HO} (h:Rd H a u):H a≠none:=by
 rcases h with h | ⟨o,h⟩ <;> rw [h] <;> simp
theorem At.more {t:T} {v:V} (s:∀ a∈O',a∈O∨H a=none) (h:At K H O t v):At K H O' t v :=
 At.map (fun a vs q=>q.elim (fun z=>.inl ⟨z.1,fun m=>(s a m).elim z.2 (Rd.some z.1)⟩) .inr) (fun _ _ q=>q) (fun a bg q=>⟨q.1,fun m=>(s a m).elim q.2 (by rw [q.1]; simp)⟩) h
theorem aA.more {t:List T} {v:List V} (s:∀ a∈O',a∈O∨H a=none) (h:aA K H O t v):aA K H O' t v :=
 aA.map (fun a vs q=>q.elim (fun z=>.inl ⟨z.1,fun m=>(s a m).elim z.2 (Rd.some z.1)⟩) .inr) (fun _ _ q=>q) (fun a bg q=>⟨q.1,fun m=>(s a m).elim q.2 (by rw [q.1]; simp)⟩) h
noncomputable def vf:HO→Bool
 | .lst _=>true
 | .dK _=>true
 | .dT _=>true
 | .ins _ _ _=>true
 | _=>false
theorem At.wrote {t:T} {v:V} {a:Addr} {o u:HO} (ha:a∈O) (hu:H a=some u) (hm:vf u=true) (h:At K H O t v):At K (upd H a o) O t v:=by
 have ne:∀ b,b∉O→b≠a:=fun b hb e=>hb (by rw [e]; exact ha)
 refine At.map (fun b vs q=>?_) (fun b vs q=>?_) (fun b bg q=>?_) h
 · rcases q with q | q
   · refine .inl ⟨?_,q.2⟩
     rcases q.1 with z | ⟨o',z⟩
     · exact .inl (by rw [aW (ne b q.2)]; exact z)
     · exact .inr ⟨o',by rw [aW (ne b q.2)]; exact z⟩
   · exact .inr q
 · rcases q with z | z
   · refine .inl ?_
     rcases z with z | ⟨o',z⟩
     · exact .inl (by rw [aW (Ke z hu (by intro e; subst e; cases hm))]; exact z)
     · exact .inr ⟨o',by rw [aW (Ke z hu (by intro e; subst e; cases hm))]; exact z⟩
   · exact .inr z
 · exact ⟨by rw [aW (ne b q.2)]; exact q.1,q.2⟩
theorem aA.iff {ts:List T}:∀ {vs:List V},aA K H O ts vs↔Paired (fun v t=>At K H O t v) vs ts:=by
 induction ts with
 | nil=>intro vs; simp only [aA]; exact ⟨fun e=>by subst e; exact .nil,fun h=>by cases h; rfl⟩
 | cons t ts ih =>
   intro vs
   simp only [aA]
   constructor
   · rintro ⟨v,r,rfl,h1,h2⟩
     exact .cons h1 (ih.mp h2)
   · intro h
     cases h with
     | cons h1 h2=>exact ⟨_,_,rfl,h1,ih.mpr h2⟩
theorem aA.wrote {t:List T} {v:List V} {a:Addr} {o u:HO} (ha:a∈O) (hu:H a=some u) (hm:vf u=true) (h:aA K H O t v):aA K (upd H a o) O t v :=
 aA.iff.mpr (Paired.oy (aA.iff.mp h) fun _ _ q=>q.wrote ha hu hm)
theorem aA.length {ts:List T} {vs:List V} (h:aA K H O ts vs):vs.length=ts.length:=O0 (aA.iff.mp h)
theorem aA.get {ts:List T} {vs:List V} (h:aA K H O ts vs) {i:Nat} {t:T} (e:ts[i]?=some t):∃ v,vs[i]?=some v∧At K H O t v:=by
 have q:=aA.iff.mp h
 clear h
 induction q generalizing i with
 | nil=>simp at e
 | cons r _ ih =>
   cases i with
   | zero=>simp at e; subst e; exact ⟨_,rfl,r⟩
   | succ i=>obtain ⟨v,h1,h2⟩:=ih (i:=i) (by simpa using e); exact ⟨v,by simpa using h1,h2⟩
theorem aA.cons {t:T} {ts:List T} {v:V} {vs:List V} (h:At K H O t v) (hs:aA K H O ts vs):aA K H O (t :: ts) (v :: vs):=by
 simp only [aA]; exact ⟨v,vs,rfl,h,hs⟩
theorem aA.nil:aA K H O [] []:=by simp only [aA]
theorem aA.append {ts us:List T} {vs ws:List V} (h:aA K H O ts vs) (h':aA K H O us ws):aA K H O (ts ++ us) (vs ++ ws):=by
 rw [aA.iff] at h h' ⊢
 induction h with
 | nil=>exact h'
 | cons r _ ih=>exact .cons r ih
theorem aA.drop {ts:List T} {vs:List V} (n:Nat) (h:aA K H O ts vs):aA K H O (ts.drop n) (vs.drop n):=by
 rw [aA.iff] at h ⊢
 induction h generalizing n with
 | nil=>cases n <;> exact .nil
 | cons r t ih=>cases n with
   | zero=>exact .cons r t
   | succ n=>exact ih n
theorem aA.take {ts:List T} {vs:List V} (n:Nat) (h:aA K H O ts vs):aA K H O (ts.take n) (vs.take n):=by
 rw [aA.iff] at h ⊢
 induction h generalizing n with
 | nil=>cases n <;> exact .nil
 | cons r t ih=>cases n with
   | zero=>exact .nil
   | succ n=>exact .cons r (ih n)
theorem aA.set {ts:List T} {vs:List V} {t:T} {v:V} (i:Nat) (h:aA K H O ts vs) (q:At K H O t v):aA K H O (ts.set i t) (vs.set i v):=by
 rw [aA.iff] at h ⊢
 induction h generalizing i with
 | nil=>exact .nil
 | cons r s ih=>cases i with
   | zero=>exact .cons q s
   | succ i=>exact .cons r (ih i)
end
mutual
noncomputable def ma:T→Bool
 | .tup ts=>qu ts
 | .lst _=>false
 | .dk _ _=>false
 | .dt _ _=>false
 | .df _ _ _=>false
 | .dz _ _ _=>false
 | .kt _=>false
 | .ins _ _ _=>false
 | .pin _ _=>false
 | _=>true
noncomputable def qu:List T→Bool
 | []=>true
 | t :: ts=>ma t && qu ts
end
section
variable {K:PySem.W.Frag} {H H':Hp} {O O':List Addr}
mutual
theorem At.ma:∀ {t:T} {v:V},ma t=true→At K H O t v→At K H O' t v
 | .bb,_,_,h=>by simpa only [At] using h
 | .bl _,_,_,h=>by simpa only [At] using h
 | .int _,_,_,h=>by simpa only [At] using h
 | .str _,_,_,h=>by simpa only [At] using h
 | .ob _,_,_,h=>by simpa only [At] using h
 | .ty _,_,_,h=>by simpa only [At] using h
 | .tup ts,_,i,h=>by
   simp only [At] at h ⊢
   simp only [VT.ma] at i
   obtain ⟨a,vs,e,h1,h2⟩:=h
   exact ⟨a,vs,e,h1,aA.ma i h2⟩
 | .lst ts,_,i,h=>by simp only [VT.ma] at i; cases i
 | .dk _ _,_,i,h=>by simp only [VT.ma] at i; cases i
 | .dt _ _,_,i,h=>by simp only [VT.ma] at i; cases i
 | .df _ _ _,_,i,h=>by simp only [VT.ma] at i; cases i
 | .dz _ _ _,_,i,h=>by simp only [VT.ma] at i; cases i
 | .kt _,_,i,h=>by simp only [VT.ma] at i; cases i
 | .ins _ _ _,_,i,h=>by simp only [VT.ma] at i; cases i
 | .pin _ _,_,i,h=>by simp only [VT.ma] at i; cases i
theorem aA.ma:∀ {ts:List T} {vs:List V},qu ts=true→aA K H O ts vs→aA K H O' ts vs
 | [],_,_,h=>by simpa only [aA] using h
 | t :: ts,_,i,h=>by
   simp only [VT.qu,kB] at i
   simp only [aA] at h ⊢
   obtain ⟨v,r,e,h1,h2⟩:=h
   exact ⟨v,r,e,At.ma i.1 h1,aA.ma i.2 h2⟩
end
end
noncomputable abbrev En:=List (Option (T×Bool))
structure Zc where
 H0:Hp
 P:List (Nat×Addr)
 Ox:List Addr
noncomputable def Zc.ex (Z:Zc) (a:Addr):Zc:={ Z with Ox:=a :: Z.Ox }
noncomputable def cC (K:PySem.W.Frag) (H:Hp) (A:List Addr) (a:Addr):T→Prop
 | .lst ts=>∃ vs,H a=some (.lst vs)∧aA K H A ts vs
 | .dk ks ts=>∃ vs,ks.length=vs.length∧H a=some (.dK (ks.zip vs))∧aA K H A ts vs
 | .dt ks ts=>∃ vs,ks.length=vs.length∧H a=some (.dT (ks.zip vs))∧aA K H A ts vs
 | .ins C ns ts=>∃ dx vs,ns.length=vs.length∧H a=some (.ins C dx (ns.zip vs))∧aA K H A ts vs
 | _=>False
noncomputable def oE (K:PySem.W.Frag) (H:Hp) (A:List Addr):Option (T×Bool)→Option Addr→Option V→Prop
 | none,o,_=>o=none
 | some (t,false),o,s=>o=none∧∃ v,s=some v∧At K H A t v
 | some (t,true),o,s=>∃ a,o=some a∧s=some (.ref a)∧cC K H A a t
noncomputable def roots (O:List (Option Addr)):List Addr:=O.filterMap id
noncomputable def av (Z:Zc) (O:List (Option Addr)):List Addr:=roots O ++ Z.Ox
structure aw (K:PySem.W.Frag) (Z:Zc) (tm:List (T×V)) (O:List (Option Addr)) (ρ:En) (σ:St) (H:Hp):Prop where
 lσ:σ.length=ρ.length
 lO:O.length=ρ.length
 sl:∀ (i:Nat) e,ρ[i]?=some e→∃ o s,O[i]?=some o∧σ[i]?=some s∧oE K H (av Z O) e o s
 nd:(roots O).Nodup
 own:∀ a∈roots O,(a∈Z.P.map (·.2)∨Z.H0 a=none)∧a∉Z.Ox∧∃ u,H a=some u∧vf u=true
 par:∀ p∈Z.P,O[p.1]?=some (some p.2)
 ox:∀ a∈Z.Ox,H a≠none
 keep:∀ b o,Z.H0 b=some o→b∉Z.P.map (·.2)→H b=some o
 qf:∀ p∈tm,At K H (av Z O) p.1 p.2
section
variable {K:PySem.W.Frag} {Z:Zc} {tm:List (T×V)} {O:List (Option Addr)} {ρ:En} {σ:St} {H H':Hp}
theorem cC.map {A A':List Addr} {a:Addr} {t:T} (h:cC K H A a t) (h1:H' a=H a) (h2:∀ ts vs,aA K H A ts vs→aA K H' A' ts vs):cC K H' A' a t:=by
 cases t with
 | lst ts=>obtain ⟨vs,e,q⟩:=h; exact ⟨vs,h1.trans e,h2 _ _ q⟩
 | dk ks ts=>obtain ⟨vs,l,e,q⟩:=h; exact ⟨vs,l,h1.trans e,h2 _ _ q⟩
 | dt ks ts=>obtain ⟨vs,l,e,q⟩:=h; exact ⟨vs,l,h1.trans e,h2 _ _ q⟩
 | ins C ns ts=>obtain ⟨dx,vs,l,e,q⟩:=h; exact ⟨dx,vs,l,h1.trans e,h2 _ _ q⟩
 | _=>exact h.elim
theorem cC.mut {A:List Addr} {a:Addr} {t:T} (h:cC K H A a t):∃ u,H a=some u∧vf u=true:=by
 cases t with
 | lst ts=>obtain ⟨vs,e,q⟩:=h; exact ⟨_,e,rfl⟩
 | dk ks ts=>obtain ⟨vs,l,e,q⟩:=h; exact ⟨_,e,rfl⟩
 | dt ks ts=>obtain ⟨vs,l,e,q⟩:=h; exact ⟨_,e,rfl⟩
 | ins C ns ts=>obtain ⟨dx,vs,l,e,q⟩:=h; exact ⟨_,e,rfl⟩
 | _=>exact h.elim
theorem cC.bo {A A':List Addr} {a:Addr} {t:T} (h:cC K H A a t) (s:∀ b∈A',b∈A):cC K H A' a t:=h.map rfl fun _ _ q=>q.bo s
theorem cC.same {A:List Addr} {a:Addr} {t:T} (h:cC K H A a t) (s:aX H H'):cC K H' A a t:=by
 obtain ⟨u,e,_⟩:=h.mut
 exact h.map (by rw [e]; exact s _ _ e) fun _ _ q=>q.same s
theorem cC.at {A:List Addr} {a:Addr} {t:T} (h:cC K H A a t) (n:a∉A):At K H A t (.ref a):=by
 cases t with
 | lst ts=>obtain ⟨vs,e,q⟩:=h; simp only [At]; exact ⟨a,vs,rfl,.inl ⟨.inl e,n⟩,q⟩
 | dk ks ts=>obtain ⟨vs,l,e,q⟩:=h; simp only [At]; exact ⟨a,vs,rfl,l,⟨e,n⟩,q⟩
 | dt ks ts=>obtain ⟨vs,l,e,q⟩:=h; simp only [At]; exact ⟨a,vs,rfl,l,⟨e,n⟩,q⟩
 | ins C ns ts=>obtain ⟨dx,vs,l,e,q⟩:=h; simp only [At]; exact ⟨a,dx,vs,rfl,l,⟨e,n⟩,q⟩
 | _=>exact h.elim
theorem oE.map {A A':List Addr} {e:Option (T×Bool)} {o:Option Addr} {s:Option V} (h:oE K H A e o s) (h1:∀ t v,At K H A t v→At K H' A' t v) (h2:∀ a t,o=some a→cC K H A a t→cC K H' A' a t):oE K H' A' e o s:=by
 match e,h with
 | none,h=>exact h
 | some (t,false),⟨e,v,es,q⟩=>exact ⟨e,v,es,h1 _ _ q⟩
 | some (t,true),⟨a,e,es,q⟩=>exact ⟨a,e,es,h2 _ _ e q⟩
theorem aQ {a:Addr}:a∈roots O↔some a∈O:=by
 unfold roots
 rw [List.mem_filterMap]
 exact ⟨fun ⟨x,h,e⟩=>by rw [id] at e; rw [← e]; exact h,fun h=>⟨_,h,rfl⟩⟩
theorem aw.Km (I:aw K Z tm O ρ σ H):∀ a∈av Z O,H a≠none:=fun a h=>by
 rcases g_.mp h with h | h
 · obtain ⟨_,_,u,e,_⟩:=I.own a h; rw [e]; simp
 · exact I.ox a h
theorem aw.same (I:aw K Z tm O ρ σ H) (s:aX H H'):aw K Z tm O ρ σ H' :=
 ⟨I.lσ,I.lO,fun i e h=>let ⟨o,w,h1,h2,h3⟩:=I.sl i e h; ⟨o,w,h1,h2,h3.map (fun _ _ q=>q.same s) fun _ _ _ q=>q.same s⟩,I.nd,
   fun a h=>let ⟨h1,h2,u,e,m⟩:=I.own a h; ⟨h1,h2,u,s _ _ e,m⟩,I.par,fun a h=>by
    cases e:H a with
    | none=>exact absurd e (I.ox a h)
    | some u=>rw [s _ _ e]; simp,
   fun b o e n=>s _ _ (I.keep b o e n),fun p hp=>(I.qf p hp).same s⟩
theorem cu (i:Nat):∀ a∈roots (O.set i none),a∈roots O:=fun a h=>by
 rw [aQ] at h ⊢
 rcases UX h with z | z
 · exact z
 · cases z
theorem gH:∀ (O:List (Option Addr)) (i:Nat),(roots O).Nodup→(roots (O.set i none)).Nodup
 | [],i,h=>by simpa using h
 | o :: O,0,h=>by
   cases o with
   | none=>simpa [roots] using h
   | some a=>simp only [roots,U7,nX,id] at h ⊢; exact (ow.mp h).2
 | o :: O,i+1,h=>by
   have key:=gH O i
   cases o with
   | none=>simp only [roots,OS,nX,id] at h ⊢; exact key h
   | some a =>
     simp only [roots,OS,nX,id] at h ⊢
     rw [ow] at h ⊢
     exact ⟨fun z=>h.1 (cu i a z),key h.2⟩
theorem bM (i:Nat):∀ a∈av Z (O.set i none),a∈av Z O:=fun a h=>by
 rcases g_.mp h with h | h
 · exact jR _ (cu i a h)
 · exact jW _ h
theorem get_set {α:Type} {l:List α} {i j:Nat} {x y:α} (h:(l.set i x)[j]?=some y):(j=i∧y=x∧i < l.length)∨(j≠i∧l[j]?=some y):=by
 rw [Va] at h
 by_cases e:i=j
 · rw [if_pos e] at h
   by_cases hl:i < l.length
   · rw [if_pos hl] at h
     exact .inl ⟨e.symm,(Option.some.inj h).symm,hl⟩
   · rw [if_neg hl] at h; cases h
 · rw [if_neg e] at h
   exact .inr ⟨fun z=>e z.symm,h⟩
theorem aw.put (I:aw K Z tm O ρ σ H) {i:Nat} {t:T} {v:V} (hp:∀ p∈Z.P,p.1≠i) (hv:At K H (av Z O) t v):aw K Z tm (O.set i none) (ρ.set i (some (t,false))) (σ.set i (some v)) H:=by
 have fw:∀ {t:T} {v:V},At K H (av Z O) t v→At K H (av Z (O.set i none)) t v:=fun q=>q.bo (bM i)
 refine ⟨by simp [I.lσ],by simp [I.lO],fun j e h=>?_,gH _ _ I.nd,fun a h=>I.own a (cu i a h),fun p q=>?_,I.ox,I.keep,fun p q=>fw (I.qf p q)⟩
 · rcases get_set h with ⟨rfl,rfl,hl⟩ | ⟨ne,h⟩
   · exact ⟨none,some v,by rw [Aw (by rw [I.lO]; exact hl)],by rw [Aw (by rw [I.lσ]; exact hl)],rfl,v,rfl,fw hv⟩
   · obtain ⟨o,s,h1,h2,h3⟩:=I.sl j e h
     exact ⟨o,s,by rw [qg (Ne.symm ne)]; exact h1,by rw [qg (Ne.symm ne)]; exact h2,h3.map (fun _ _ q=>fw q) fun _ _ _ q=>q.bo (bM i)⟩
 · rw [qg (Ne.symm (hp p q))]; exact I.par p q
theorem aw.forget (I:aw K Z tm O ρ σ H) {i:Nat} (hp:∀ p∈Z.P,p.1≠i):aw K Z tm (O.set i none) (ρ.set i none) σ H:=by
 have fw:∀ {t:T} {v:V},At K H (av Z O) t v→At K H (av Z (O.set i none)) t v:=fun q=>q.bo (bM i)
 refine ⟨by simp [I.lσ],by simp [I.lO],fun j e h=>?_,gH _ _ I.nd,fun a h=>I.own a (cu i a h),fun p q=>?_,I.ox,I.keep,fun p q=>fw (I.qf p q)⟩
 · rcases get_set h with ⟨rfl,rfl,hl⟩ | ⟨ne,h⟩
   · obtain ⟨s,hs⟩:∃ s,σ[j]?=some s:=⟨σ[j]'(by rw [I.lσ]; exact hl),by simp⟩
     exact ⟨none,s,by rw [Aw (by rw [I.lO]; exact hl)],hs,rfl⟩
   · obtain ⟨o,s,h1,h2,h3⟩:=I.sl j e h
     exact ⟨o,s,by rw [qg (Ne.symm ne)]; exact h1,h2,h3.map (fun _ _ q=>fw q) fun _ _ _ q=>q.bo (bM i)⟩
 · rw [qg (Ne.symm (hp p q))]; exact I.par p q
theorem m6:∀ (O:List (Option Addr)) (i:Nat) (a:Addr),a∉roots O→(roots O).Nodup→(roots (O.set i (some a))).Nodup
 | [],i,a,_,h=>by simpa using h
 | o :: O,0,a,n,h=>by
   cases o with
   | none=>simp only [roots,U7,nX,id] at n h ⊢; exact ow.mpr ⟨n,h⟩
   | some b =>
     simp only [roots,U7,nX,id] at n h ⊢
     exact ow.mpr ⟨fun z=>n (jc _ z),(ow.mp h).2⟩
 | o :: O,i+1,a,n,h=>by
   have key:=m6 O i a
   cases o with
   | none=>simp only [roots,OS,nX,id] at n h ⊢; exact key n h
   | some b =>
     simp only [roots,OS,nX,id] at n h ⊢
     rw [ow] at h ⊢
     refine ⟨fun z=>?_,key (fun z=>n (jc _ z)) h.2⟩
     have z':some b∈O.set i (some a):=aQ.mp z
     rcases UX z' with q | q
     · exact h.1 (aQ.mpr q)
     · exact n (by rw [Option.some.inj q]; exact iw)
theorem vg {a:Addr} (i:Nat):∀ b∈av Z (O.set i (some a)),b∈av (Z.ex a) O:=fun b h=>by
 rcases g_.mp h with h | h
 · rcases UX (aQ.mp h) with z | z
   · exact jR _ (aQ.mpr z)
   · exact jW _ (by rw [Option.some.inj z]; exact iw)
 · exact jW _ (jc _ h)
theorem aw.Xi {a:Addr} (I:aw K (Z.ex a) tm O ρ σ H) {i:Nat} {t:T} (hp:∀ p∈Z.P,p.1≠i) (hv:cC K H (av (Z.ex a) O) a t) (h0:Z.H0 a=none) (hx:a∉Z.Ox):aw K Z tm (O.set i (some a)) (ρ.set i (some (t,true))) (σ.set i (some (.ref a))) H:=by
 have sub:=vg (Z:=Z) (O:=O) (a:=a) i
 have fw:∀ {t:T} {v:V},At K H (av (Z.ex a) O) t v→At K H (av Z (O.set i (some a))) t v:=fun q=>q.bo sub
 have na:a∉roots O:=fun z=>(I.own a z).2.1 iw
 refine ⟨by simp [I.lσ],by simp [I.lO],fun j e h=>?_,m6 _ _ _ na I.nd,fun b h=>?_,fun p q=>?_,fun b h=>I.ox b (jc _ h),I.keep,fun p q=>fw (I.qf p q)⟩
 · rcases get_set h with ⟨rfl,rfl,hl⟩ | ⟨ne,h⟩
   · exact ⟨some a,some (.ref a),by rw [Aw (by rw [I.lO]; exact hl)],by rw [Aw (by rw [I.lσ]; exact hl)],a,rfl,rfl,hv.bo sub⟩
   · obtain ⟨o,s,h1,h2,h3⟩:=I.sl j e h
     exact ⟨o,s,by rw [qg (Ne.symm ne)]; exact h1,by rw [qg (Ne.symm ne)]; exact h2,h3.map (fun _ _ q=>fw q) fun _ _ _ q=>q.bo sub⟩
 · rcases UX (aQ.mp h) with z | z
   · obtain ⟨h1,h2,h3⟩:=I.own b (aQ.mpr z)
     exact ⟨h1,fun q=>h2 (jc _ q),h3⟩
   · cases z
     exact ⟨.inr h0,hx,hv.mut⟩
 · rw [qg (Ne.symm (hp p q))]; exact I.par p q
theorem aw.uR (I:aw K Z tm O ρ σ H) {i:Nat} {t:T} (hp:∀ p∈Z.P,p.1≠i) (hi:ρ[i]?=some (some (t,true))):aw K Z tm (O.set i none) (ρ.set i (some (t,false))) σ H:=by
 have fw:∀ {t:T} {v:V},At K H (av Z O) t v→At K H (av Z (O.set i none)) t v:=fun q=>q.bo (bM i)
 obtain ⟨o,s,h1,h2,a,rfl,rfl,hr⟩:=I.sl i _ hi
 have ha:a∈roots O:=aQ.mpr (j7 h1)
 have na:a∉roots (O.set i none):=fun z=>by
  obtain ⟨j,hj⟩:=CH.mp (aQ.mp z)
  rcases get_set hj with ⟨_,q,_⟩ | ⟨ne,q⟩
  · cases q
  · -- two places of one root
    have key:∀ (O:List (Option Addr)) (i j:Nat),i < j→O[i]?=some (some a)→O[j]?=some (some a)→(roots O).Nodup→False:=by
     intro O
     induction O with
     | nil=>intro i j _ h; simp at h
     | cons o O ih =>
       intro i j Vp e1 e2 nd
       cases j with
       | zero=>omega
       | succ j =>
         have GG:O[j]?=some (some a):=by simpa using e2
         cases i with
         | zero =>
           have:o=some a:=by simpa using e1
           subst this
           simp only [roots,nX,id] at nd
           exact (ow.mp nd).1 (aQ.mpr (j7 GG))
         | succ i =>
           refine ih i j (by omega) (by simpa using e1) GG ?_
           cases o with
           | none=>simpa [roots] using nd
           | some b=>simp only [roots,nX,id] at nd; exact (ow.mp nd).2
    rcases Nat.lt_or_gt_of_ne ne with l | l
    · exact key O j i l q h1 I.nd
    · exact key O i j l h1 q I.nd
 have nav:a∉av Z (O.set i none):=fun z=>by
  rcases g_.mp z with z | z
  · exact na z
  · exact (I.own a ha).2.1 z
 refine ⟨by simp [I.lσ],by simp [I.lO],fun j e h=>?_,gH _ _ I.nd,fun a h=>I.own a (cu i a h),fun p q=>?_,I.ox,I.keep,fun p q=>fw (I.qf p q)⟩
 · rcases get_set h with ⟨rfl,rfl,hl⟩ | ⟨ne,h⟩
   · exact ⟨none,some (.ref a),by rw [Aw (by rw [I.lO]; exact hl)],h2,rfl,.ref a,rfl,(hr.bo (bM j)).at nav⟩
   · obtain ⟨o,s,h1,h2,h3⟩:=I.sl j e h
     exact ⟨o,s,by rw [qg (Ne.symm ne)]; exact h1,h2,h3.map (fun _ _ q=>fw q) fun _ _ _ q=>q.bo (bM i)⟩
 · rw [qg (Ne.symm (hp p q))]; exact I.par p q
theorem aw.wrote (I:aw K Z tm O ρ σ H) {i:Nat} {t t':T} {a:Addr} {u:HO} (hi:ρ[i]?=some (some (t,true))) (hO:O[i]?=some (some a)) (hr:cC K (upd H a u) (av Z O) a t'):aw K Z tm O (ρ.set i (some (t',true))) σ (upd H a u):=by
 have ha:a∈roots O:=aQ.mpr (j7 hO)
 have HJ:a∈av Z O:=jR _ ha
 obtain ⟨hP,hx,u0,e0,m0⟩:=I.own a ha
 have inj:∀ j b,j≠i→O[j]?=some (some b)→b≠a:=by
  intro j b ne hj e
  subst e
  have key:∀ (O:List (Option Addr)) (i j:Nat),i < j→O[i]?=some (some b)→O[j]?=some (some b)→(roots O).Nodup→False:=by
   intro O
   induction O with
   | nil=>intro i j _ h; simp at h
   | cons o O ih =>
     intro i j Vp e1 e2 nd
     cases j with
     | zero=>omega
     | succ j =>
       have GG:O[j]?=some (some b):=by simpa using e2
       cases i with
       | zero =>
         have:o=some b:=by simpa using e1
         subst this
         simp only [roots,nX,id] at nd
         exact (ow.mp nd).1 (aQ.mpr (j7 GG))
       | succ i =>
         refine ih i j (by omega) (by simpa using e1) GG ?_
         cases o with
         | none=>simpa [roots] using nd
         | some c=>simp only [roots,nX,id] at nd; exact (ow.mp nd).2
  rcases Nat.lt_or_gt_of_ne ne with l | l
  · exact key O j i l hj hO I.nd
  · exact key O i j l hO hj I.nd
 refine ⟨by simp [I.lσ],by simp [I.lO],fun j e h=>?_,I.nd,fun b h=>?_,I.par,fun b h=>?_,fun b o e n=>?_,fun p q=>(I.qf p q).wrote HJ e0 m0⟩
 · rcases get_set h with ⟨rfl,rfl,hl⟩ | ⟨ne,h⟩
   · obtain ⟨o,s,h1,h2,a',h4,h5,h6⟩:=I.sl j _ hi
     rw [hO] at h1
     cases h1
     cases h4
     exact ⟨_,s,hO,h2,a,rfl,h5,hr⟩
   · obtain ⟨o,s,h1,h2,h3⟩:=I.sl j e h
     refine ⟨o,s,h1,h2,h3.map (fun _ _ q=>q.wrote HJ e0 m0) fun b t e q=>?_⟩
     subst e
     exact q.map (aW (inj j b ne h1)) fun _ _ z=>z.wrote HJ e0 m0
 · obtain ⟨h1,h2,v,e,m⟩:=I.own b h
   by_cases hb:b=a
   · subst hb; exact ⟨h1,h2,hr.mut⟩
   · exact ⟨h1,h2,v,by rw [aW hb]; exact e,m⟩
 · by_cases hb:b=a
   · subst hb; exact absurd h hx
   · rw [aW hb]; exact I.ox b h
 · by_cases hb:b=a
   · subst hb
     rcases hP with q | q
     · exact absurd q n
     · rw [q] at e; cases e
   · rw [aW hb]; exact I.keep b o e n
theorem aw.fresh (I:aw K Z tm O ρ σ H) {a:Addr} (h:H a=none):a∉av Z O∧a∉Z.Ox∧Z.H0 a=none:=by
 refine ⟨fun z=>I.Km a z h,fun z=>I.ox a z h,?_⟩
 cases e:Z.H0 a with
 | none=>rfl
 | some o =>
   by_cases hp:a∈Z.P.map (·.2)
   · obtain ⟨p,Pc,rfl⟩:=uO.mp hp
     obtain ⟨_,_,u,e',_⟩:=I.own p.2 (aQ.mpr (j7 (I.par p Pc)))
     rw [h] at e'; cases e'
   · rw [I.keep a o e hp] at h; cases h
theorem cR {a:Addr}:∀ b∈av (Z.ex a) O,b∈av Z O∨b=a:=fun b h=>by
 rcases g_.mp h with h | h
 · exact .inl (jR _ h)
 · rcases cZ.mp h with h | h
   · exact .inr h
   · exact .inl (jW _ h)
theorem fN {a:Addr}:∀ b∈av Z O,b∈av (Z.ex a) O:=fun b h=>by
 rcases g_.mp h with h | h
 · exact jR _ h
 · exact jW _ (jc _ h)
theorem aw.new (I:aw K Z tm O ρ σ H) {a:Addr} {u:HO} (h:H a=none) (hu:vf u=true):aw K (Z.ex a) tm O ρ σ (upd H a u):=by
 have s:aX H (upd H a u):=aU h
 have J:=I.same s
 obtain ⟨n1,n2,n3⟩:=I.fresh h
 have mr:∀ b∈av (Z.ex a) O,b∈av Z O∨H b=none:=fun b hb=>(cR b hb).imp id fun e=>by rw [e]; exact h
 have fw:∀ {t:T} {v:V},At K H (av Z O) t v→At K (upd H a u) (av (Z.ex a) O) t v:=fun q=>(q.more mr).same s
 refine ⟨J.lσ,J.lO,fun i e hi=>?_,J.nd,fun b hb=>?_,J.par,fun b hb=>?_,J.keep,fun p hp=>fw (I.qf p hp)⟩
 · obtain ⟨o,w,h1,h2,h3⟩:=I.sl i e hi
   refine ⟨o,w,h1,h2,h3.map (fun _ _ q=>fw q) fun b t eo q=>?_⟩
   refine cC.same (q.map rfl fun _ _ z=>z.more mr) s
 · obtain ⟨q1,q2,q3⟩:=J.own b hb
   refine ⟨q1,fun z=>?_,q3⟩
   rcases cZ.mp z with z | z
   · exact n1 (by rw [← z]; exact jR _ hb)
   · exact q2 z
 · rcases cZ.mp hb with z | z
   · rw [z,a_]; simp
   · exact J.ox b z
theorem aw.Xj {a:Addr} (I:aw K (Z.ex a) tm O ρ σ H):aw K Z tm O ρ σ H :=
 ⟨I.lσ,I.lO,fun i e h=>let ⟨o,w,h1,h2,h3⟩:=I.sl i e h; ⟨o,w,h1,h2,h3.map (fun _ _ q=>q.bo fN) fun _ _ _ q=>q.bo fN⟩,I.nd,
   fun b h=>let ⟨q1,q2,q3⟩:=I.own b h; ⟨q1,fun z=>q2 (jc _ z),q3⟩,I.par,fun b h=>I.ox b (jc _ h),I.keep,fun p hp=>(I.qf p hp).bo fN⟩
end
inductive Rt where
 | vw (t:T)
 | fr (t:T)
noncomputable def Rt.t:Rt→T
 | .vw t=>t
 | .fr t=>t
noncomputable def iy (K:PySem.W.Frag) (H:Hp) (A:List Addr) (t:T) (v:V):Prop:=At K H A t v∨∃ a,v = .ref a∧cC K H A a t
noncomputable def gU (K:PySem.W.Frag) (Z:Zc) (tm:List (T×V)) (O:List (Option Addr)) (ρ:En) (σ:St) (H:Hp):Rt→V→Prop
 | .vw t,v=>aw K Z tm O ρ σ H∧At K H (av Z O) t v
 | .fr t,v=>∃ a,v = .ref a∧aw K (Z.ex a) tm O ρ σ H∧cC K H (av (Z.ex a) O) a t∧Z.H0 a=none∧a∉Z.Ox
noncomputable abbrev FE:=En→(T→Prop)→Prop
noncomputable abbrev FP:=En→(Rt→Prop)→Prop
noncomputable abbrev FX:=En→(En→Rt→Prop)→Prop
noncomputable abbrev FB:=En→(Bool→Prop)→Prop
noncomputable abbrev FA:=En→(List T→Prop)→Prop
section
variable {K:PySem.W.Frag} {Z:Zc} {tm:List (T×V)} {O:List (Option Addr)} {ρ:En} {σ:St} {H H':Hp} {A:List Addr}
theorem iy.same {t:T} {v:V} (s:aX H H') (h:iy K H A t v):iy K H' A t v:=h.imp (fun q=>q.same s) fun ⟨a,e,q⟩=>⟨a,e,q.same s⟩
theorem iy.lst {ts:List T} {v:V} (h:iy K H A (.lst ts) v):∃ a vs,v = .ref a∧gy K H a vs∧aA K H A ts vs:=by
 rcases h with h | ⟨a,rfl,vs,e,q⟩
 · simp only [At] at h
   obtain ⟨a,vs,rfl,l,q⟩:=h
   exact ⟨a,vs,rfl,l.sq,q⟩
 · exact ⟨a,vs,rfl,gy.of e,q⟩
theorem iy.tup {ts:List T} {v:V} (h:iy K H A (.tup ts) v):∃ a vs,v = .ref a∧dZ K H a vs∧aA K H A ts vs:=by
 rcases h with h | ⟨a,rfl,q⟩
 · simpa only [At] using h
 · exact q.elim
theorem iy.dk {ks:List Key} {ts:List T} {v:V} (h:iy K H A (.dk ks ts) v):∃ a vs,v = .ref a∧ks.length=vs.length∧H a=some (.dK (ks.zip vs))∧aA K H A ts vs:=by
 rcases h with h | ⟨a,rfl,vs,l,e,q⟩
 · simp only [At] at h
   obtain ⟨a,vs,rfl,l,d,q⟩:=h
   exact ⟨a,vs,rfl,l,d.1,q⟩
 · exact ⟨a,vs,rfl,l,e,q⟩
theorem iy.dt {ks:List (List Key)} {ts:List T} {v:V} (h:iy K H A (.dt ks ts) v):∃ a vs,v = .ref a∧ks.length=vs.length∧H a=some (.dT (ks.zip vs))∧aA K H A ts vs:=by
 rcases h with h | ⟨a,rfl,vs,l,e,q⟩
 · simp only [At] at h
   obtain ⟨a,vs,rfl,l,d,q⟩:=h
   exact ⟨a,vs,rfl,l,d.1,q⟩
 · exact ⟨a,vs,rfl,l,e,q⟩
theorem iy.df {o:Obj} {ks:List (List Key)} {ts:List T} {v:V} (h:iy K H A (.df o ks ts) v):∃ a vs,v = .ref a∧ks.length=vs.length∧H a=some (.uR o (.dT (ks.zip vs)))∧aA K H A ts vs:=by
 rcases h with h | ⟨a,rfl,q⟩
 · simp only [At] at h
   obtain ⟨a,vs,rfl,l,d,q⟩:=h
   exact ⟨a,vs,rfl,l,d.1,q⟩
 · exact q.elim
theorem iy.dz {o:Obj} {ks:List Key} {ts:List T} {v:V} (h:iy K H A (.dz o ks ts) v):∃ a vs,v = .ref a∧ks.length=vs.length∧H a=some (.uR o (.dK (ks.zip vs)))∧aA K H A ts vs:=by
 rcases h with h | ⟨a,rfl,q⟩
 · simp only [At] at h
   obtain ⟨a,vs,rfl,l,d,q⟩:=h
   exact ⟨a,vs,rfl,l,d.1,q⟩
 · exact q.elim
theorem iy.kt {k:List Key} {v:V} (h:iy K H A (.kt k) v):∃ a,v = .ref a∧H a=some (.tup (k.map kV)):=by
 rcases h with h | ⟨a,rfl,q⟩
 · simp only [At] at h
   obtain ⟨a,rfl,d⟩:=h
   exact ⟨a,rfl,d.1⟩
 · exact q.elim
theorem iy.ins {C:Addr} {ns:List Str} {ts:List T} {v:V} (h:iy K H A (.ins C ns ts) v):∃ a dx vs,v = .ref a∧ns.length=vs.length∧H a=some (.ins C dx (ns.zip vs))∧aA K H A ts vs:=by
 rcases h with h | ⟨a,rfl,dx,vs,l,e,q⟩
 · simp only [At] at h
   obtain ⟨a,dx,vs,rfl,l,d,q⟩:=h
   exact ⟨a,dx,vs,rfl,l,d.1,q⟩
 · exact ⟨a,dx,vs,rfl,l,e,q⟩
theorem iy.int {i:Int} {v:V} (h:iy K H A (.int i) v):v = .int i:=h.elim (fun q=>by simpa only [At] using q) fun ⟨_,_,q⟩=>q.elim
theorem iy.str {i:Str} {v:V} (h:iy K H A (.str i) v):v = .str i:=h.elim (fun q=>by simpa only [At] using q) fun ⟨_,_,q⟩=>q.elim
theorem iy.bl {i:Bool} {v:V} (h:iy K H A (.bl i) v):v = .bl i:=h.elim (fun q=>by simpa only [At] using q) fun ⟨_,_,q⟩=>q.elim
theorem iy.bb {v:V} (h:iy K H A .bb v):v = .bb:=h.elim (fun q=>by simpa only [At] using q) fun ⟨_,_,q⟩=>q.elim
theorem iy.ob {a:Addr} {v:V} (h:iy K H A (.ob a) v):v = .ref a:=h.elim (fun q=>by simpa only [At] using q) fun ⟨_,_,q⟩=>q.elim
theorem bG {i:Int}:At K H A (.int i) (.int i):=by simp only [At]
theorem bJ {i:Str}:At K H A (.str i) (.str i):=by simp only [At]
theorem c_ {i:Bool}:At K H A (.bl i) (.bl i):=by simp only [At]
theorem md:At K H A .bb .bb:=by simp only [At]
theorem bu {ts:List T} {a:Addr} {vs:List V} (h:dZ K H a vs) (q:aA K H A ts vs):At K H A (.tup ts) (.ref a):=by simp only [At]; exact ⟨a,vs,rfl,h,q⟩
theorem gU.env {r:Rt} {v:V} (h:gU K Z tm O ρ σ H r v):aw K Z tm O ρ σ H:=by
 cases r with
 | vw t=>exact h.1
 | fr t=>obtain ⟨a,_,I,_⟩:=h; exact I.Xj
theorem gU.at {r:Rt} {v:V} (h:gU K Z tm O ρ σ H r v):At K H (av Z O) r.t v:=by
 cases r with
 | vw t=>exact h.2
 | fr t =>
   obtain ⟨a,rfl,I,q,_,hx⟩:=h
   refine (q.bo fN).at fun z=>?_
   rcases g_.mp z with z | z
   · exact (I.own a z).2.1 iw
   · exact hx z
theorem aw.A0 (I:aw K Z tm O ρ σ H) {a:Addr} {ts:List T} {vs:List V} (h:H a=none) (q:aA K H (av Z O) ts vs):gU K Z tm O ρ σ (upd H a (.lst vs)) (.fr (.lst ts)) (.ref a):=by
 obtain ⟨n1,n2,n3⟩:=I.fresh h
 exact ⟨a,rfl,I.new h rfl,⟨vs,a_,(q.more fun b hb=>(cR b hb).imp id fun e=>by rw [e]; exact h).same (aU h)⟩,n3,n2⟩
theorem aw.newD (I:aw K Z tm O ρ σ H) {a:Addr} {ks:List Key} {ts:List T} {vs:List V} (h:H a=none) (hl:ks.length=vs.length) (q:aA K H (av Z O) ts vs):gU K Z tm O ρ σ (upd H a (.dK (ks.zip vs))) (.fr (.dk ks ts)) (.ref a):=by
 obtain ⟨n1,n2,n3⟩:=I.fresh h
 exact ⟨a,rfl,I.new h rfl,⟨vs,hl,a_,(q.more fun b hb=>(cR b hb).imp id fun e=>by rw [e]; exact h).same (aU h)⟩,n3,n2⟩
end
structure Bx (p:List (T×V)→Prop):Prop where
 h:∀ tm,p tm
section
variable (X:Cx) (Z:Zc)
noncomputable def lR (tm:List (T×V)) (f:FE):TE:=fun σ H Q=>∃ ρ O q,aw X.K Z tm O ρ σ H∧f ρ q∧∀ t,q t→∀ v H',aX H H'→iy X.K H' (av Z O) t v→Q v H'
noncomputable def lE (tm:List (T×V)) (f:FE):TE:=fun σ H Q=>∃ ρ O q,aw X.K Z tm O ρ σ H∧f ρ q∧∀ t,q t→∀ v H',aX H H'→At X.K H' (av Z O) t v→Q v H'
noncomputable def lP (tm:List (T×V)) (f:FP):TE:=fun σ H Q=>∃ ρ O q,aw X.K Z tm O ρ σ H∧f ρ q∧∀ r,q r→∀ v H',aX H H'→gU X.K Z tm O ρ σ H' r v→Q v H'
noncomputable def lX (tm:List (T×V)) (f:FX):TE:=fun σ H Q=>∃ ρ O q,aw X.K Z tm O ρ σ H∧f ρ q∧∀ ρ' r,q ρ' r→∀ O' v H',gU X.K Z tm O' ρ' σ H' r v→Q v H'
noncomputable def lB (tm:List (T×V)) (f:FB):TT:=fun σ H Q=>∃ ρ O q,aw X.K Z tm O ρ σ H∧f ρ q∧∀ b,q b→∀ H',aX H H'→Q b H'
noncomputable def lA (tm:List (T×V)) (f:FA):TA:=fun σ H Q=>∃ ρ O q,aw X.K Z tm O ρ σ H∧f ρ q∧∀ ts,q ts→∀ vs H',aX H H'→aA X.K H' (av Z O) ts vs→Q vs H'
noncomputable def ZZ (tm:List (T×V)) (f:FA):TA:=fun σ H Q=>∃ ρ O q,aw X.K Z tm O ρ σ H∧f ρ q∧∀ ts,q ts→∀ vs H',aX H H'→Paired (fun v t=>iy X.K H' (av Z O) t v) vs ts→Q vs H'
noncomputable def VR (e:Expr) (f:FE):Prop:=Bx fun tm=>PE X e (lR X Z tm f)
noncomputable instance {e:Expr} {f:FE}:CoeFun (VR X Z e f) fun _=>∀ tm,PE X e (lR X Z tm f):=⟨fun h=>Bx.h h⟩
noncomputable def VE (e:Expr) (f:FE):Prop:=Bx fun tm=>PE X e (lE X Z tm f)
noncomputable instance {e:Expr} {f:FE}:CoeFun (VE X Z e f) fun _=>∀ tm,PE X e (lE X Z tm f):=⟨fun h=>Bx.h h⟩
noncomputable def VP (e:Expr) (f:FP):Prop:=Bx fun tm=>PE X e (lP X Z tm f)
noncomputable instance {e:Expr} {f:FP}:CoeFun (VP X Z e f) fun _=>∀ tm,PE X e (lP X Z tm f):=⟨fun h=>Bx.h h⟩
noncomputable def VX (e:Expr) (f:FX):Prop:=Bx fun tm=>PE X e (lX X Z tm f)
noncomputable instance {e:Expr} {f:FX}:CoeFun (VX X Z e f) fun _=>∀ tm,PE X e (lX X Z tm f):=⟨fun h=>Bx.h h⟩
noncomputable def VC (e:Expr) (f:FB):Prop:=Bx fun tm=>PT X e (lB X Z tm f)
noncomputable instance {e:Expr} {f:FB}:CoeFun (VC X Z e f) fun _=>∀ tm,PT X e (lB X Z tm f):=⟨fun h=>Bx.h h⟩
noncomputable def VW (e:Expr) (f:FB):Prop:=Bx fun tm=>PW X e (lB X Z tm f)
noncomputable instance {e:Expr} {f:FB}:CoeFun (VW X Z e f) fun _=>∀ tm,PW X e (lB X Z tm f):=⟨fun h=>Bx.h h⟩
noncomputable def VA (es:List Expr) (f:FA):Prop:=Bx fun tm=>PA X es (lA X Z tm f)
noncomputable instance {es:List Expr} {f:FA}:CoeFun (VA X Z es f) fun _=>∀ tm,PA X es (lA X Z tm f):=⟨fun h=>Bx.h h⟩
noncomputable def HK (es:List Expr) (f:FA):Prop:=Bx fun tm=>PA X es (ZZ X Z tm f)
noncomputable instance {es:List Expr} {f:FA}:CoeFun (HK X Z es f) fun _=>∀ tm,PA X es (ZZ X Z tm f):=⟨fun h=>Bx.h h⟩
end
theorem PE.weak {X:Cx} {e:Expr} {t t':TE} (h:PE X e t) (hw:∀ σ H Q,t' σ H Q→t σ H Q):PE X e t':=fun pins s σ H Q I q=>h pins s σ H Q I (hw _ _ _ q)
theorem PT.weak {X:Cx} {e:Expr} {t t':TT} (h:PT X e t) (hw:∀ σ H Q,t' σ H Q→t σ H Q):PT X e t':=fun pins s σ H Q I q=>h pins s σ H Q I (hw _ _ _ q)
theorem PW.weak {X:Cx} {e:Expr} {t t':TT} (h:PW X e t) (hw:∀ σ H Q,t' σ H Q→t σ H Q):PW X e t':=fun wh pins s σ H Q I q=>h wh pins s σ H Q I (hw _ _ _ q)
theorem PA.weak {X:Cx} {e:List Expr} {t t':TA} (h:PA X e t) (hw:∀ σ H Q,t' σ H Q→t σ H Q):PA X e t':=fun pos pins s σ H Q I q=>h pos pins s σ H Q I (hw _ _ _ q)
theorem PS.weak {X:Cx} {b:Stmt} {t t':TS} (h:PS X b t) (hw:∀ D σ H,t' D σ H→t D σ H):PS X b t':=fun pins s σ H D I q=>h pins s σ H D I (hw D σ H q)
theorem nY.vh {X:Cx} {b:List Stmt} {t t':TS} (h:nY X b t) (hw:∀ D σ H,t' D σ H→t D σ H):nY X b t':=fun pins s σ H D I q=>h pins s σ H D I (hw D σ H q)
section
variable {X:Cx} {Z:Zc} {e a b:Expr} {es:List Expr} {pos:Pos}
theorem VE.vr {f:FE} (h:VE X Z e f):VR X Z e f:=.mk fun tm=>PE.weak (h tm) fun σ H Q ⟨ρ,O,q,I,hf,k⟩=>⟨ρ,O,q,I,hf,fun t ht v H' s z=>k t ht v H' s (.inl z)⟩
noncomputable def fT (f:FP):FE:=fun ρ Q=>f ρ fun r=>Q r.t
noncomputable def fV (f:FE):FP:=fun ρ Q=>f ρ fun t=>Q (.vw t)
noncomputable def fX (f:FP):FX:=fun ρ Q=>f ρ fun r=>Q ρ r
theorem VP.ve {f:FP} (h:VP X Z e f):VE X Z e (fT f):=.mk fun tm=>PE.weak (h tm) fun σ H Q ⟨ρ,O,q,I,hf,k⟩=>⟨ρ,O,fun r=>q r.t,I,hf,fun r hr v H' s z=>k r.t hr v H' s z.at⟩
theorem VP.vr {f:FP} (h:VP X Z e f):VR X Z e (fT f):=h.ve.vr
theorem VP.vx {f:FP} (h:VP X Z e f):VX X Z e (fX f):=.mk fun tm=>PE.weak (h tm) fun σ H Q ⟨ρ,O,q,I,hf,k⟩=>⟨ρ,O,fun r=>q ρ r,I,hf,fun r hr v H' s z=>k ρ r hr O v H' z⟩
theorem VE.vp {f:FE} (h:VE X Z e f):VP X Z e (fV f):=.mk fun tm=>PE.weak (h tm) fun σ H Q ⟨ρ,O,q,I,hf,k⟩=>⟨ρ,O,fun t=>q (.vw t),I,hf,fun t hr v H' s z=>k (.vw t) hr v H' s ⟨I.same s,z⟩⟩
noncomputable def QZ (i:Nat):FE:=fun ρ Q=>match ρ[i]? with
 | some (some (t,false))=>Q t
 | _=>False
noncomputable def Kn (i:Nat):FE:=fun ρ Q=>match ρ[i]? with
 | some (some (t,_))=>Q t
 | _=>False
theorem aj (i:Nat) {x:Str} (hN:X.N[i]?=some x:=by rfl) (hv:xA X.env.scope x:=by first | exact Or.inl rfl | exact Or.inr (Or.inl rfl) | exact Or.inr (Or.inr rfl)) (hd:(x == ("__debug__" : Str))=false:=by decide)
  (j8:(x == ("__classdict__" : Str))=false:=by decide):VE X Z (.Name x pos) (QZ i):=.mk fun tm=>PE.weak (fm hN hv hd j8) fun σ H Q ⟨ρ,O,q,I,hf,k⟩=>by
 unfold QZ at hf
 split at hf
 · rename_i t e
   obtain ⟨o,s,h1,h2,rfl,v,rfl,h3⟩:=I.sl i _ e
   exact ⟨v,h2,k t hf v H (aX.refl H) h3⟩
 · exact hf.elim
theorem aa (i:Nat) {x:Str} (hN:X.N[i]?=some x:=by rfl) (hv:xA X.env.scope x:=by first | exact Or.inl rfl | exact Or.inr (Or.inl rfl) | exact Or.inr (Or.inr rfl)) (hd:(x == ("__debug__" : Str))=false:=by decide)
  (j8:(x == ("__classdict__" : Str))=false:=by decide):VR X Z (.Name x pos) (Kn i):=.mk fun tm=>PE.weak (fm hN hv hd j8) fun σ H Q ⟨ρ,O,q,I,hf,k⟩=>by
 unfold Kn at hf
 split at hf
 · rename_i t b e
   obtain ⟨o,s,h1,h2,h3⟩:=I.sl i _ e
   cases b with
   | false=>obtain ⟨rfl,v,rfl,h3⟩:=h3; exact ⟨v,h2,k t hf v H (aX.refl H) (.inl h3)⟩
   | true=>obtain ⟨a,rfl,rfl,h3⟩:=h3; exact ⟨_,h2,k t hf _ H (aX.refl H) (.inr ⟨a,rfl,h3⟩)⟩
 · exact hf.elim
noncomputable def fC (t:T):FP:=fun _ Q=>Q (.vw t)
theorem Ds {t:T} {v:V} (h:PE X e (tC v)) (ht:∀ H A,At X.K H A t v):VP X Z e (fC t):=.mk fun tm=>PE.weak h fun σ H Q ⟨ρ,O,q,I,hf,k⟩=>k _ hf v H (aX.refl H) ⟨I,ht _ _⟩
theorem af {i j pos}:VP X Z (.Constant (.int i) j pos) (fC (.int i)):=Ds Lx fun _ _=>bG
theorem hU {i j pos}:VP X Z (.Constant (.bool i) j pos) (fC (.bl i)):=Ds P6 fun _ _=>c_
theorem ay {i j pos}:VP X Z (.Constant (.str i) j pos) (fC (.str i)):=Ds Lz fun _ _=>bJ
theorem jl {j pos}:VP X Z (.Constant .none j pos) (fC .bb):=Ds Ly fun _ _=>md
theorem eV {x:Str} {t:T} {v:V} {u:Value} (hg:Gl X x) (hm:X.mg x=some u) (r:RelV v u) (ht:∀ H A,At X.K H A t v) (hd:(x == ("__debug__" : Str))=false:=by decide):VP X Z (.Name x pos) (fC t):=Ds (zp hg hm r hd) ht
noncomputable def oF (K:PySem.W.Frag) (r:R2) (p:T→T→(Rt→Prop)→Prop):Prop :=
 ∀ (Z:Zc) (tm:List (T×V)) (O:List (Option Addr)) (ρ:En) (σ:St) (H:Hp) (x y:T) (v w:V) (q:Rt→Prop) (Q:VK),aw K Z tm O ρ σ H→iy K H (av Z O) x v→iy K H (av Z O) y w→p x y q →
  (∀ t,q t→∀ u H',aX H H'→gU K Z tm O ρ σ H' t u→Q u H')→r v w H Q
noncomputable def f2 (fa fb:FE) (p:T→T→(Rt→Prop)→Prop):FP:=fun ρ Q=>fa ρ fun x=>fb ρ fun y=>p x y Q
theorem two {r:R2} {fa fb:FE} {p:T→T→(Rt→Prop)→Prop} (ho:oF X.K r p) {tm:List (T×V)}:∀ σ H Q,lP X Z tm (f2 fa fb p) σ H Q→Qk r (lR X Z tm fa) (lR X Z tm fb) σ H Q:=fun σ H Q ⟨ρ,O,q,I,hf,k⟩ =>
 ⟨ρ,O,fun x=>fb ρ fun y=>p x y q,I,hf,fun x hx v H1 s1 a1=>⟨ρ,O,fun y=>p x y q,I.same s1,hx,fun y hy w H2 s2 a2 =>
   ho Z tm O ρ σ H2 x y v w q Q ((I.same s1).same s2) (a1.same s2) a2 hy fun t ht u H' s a=>k t ht u H' ((s1.trans s2).trans s) a⟩⟩
theorem iE {op:Operator} {r:R2} {fa fb:FE} {p:T→T→(Rt→Prop)→Prop} (h:eY X (binaryOp op) r) (ho:oF X.K r p) (ha:VR X Z a fa) (hb:VR X Z b fb):VP X Z (.BinOp a op b pos) (f2 fa fb p) :=
 .mk fun tm=>PE.weak (Kj h (ha tm) (hb tm)) (two ho)
theorem sO {op:CmpOp} {r:R2} {fa fb:FE} {p:T→T→(Rt→Prop)→Prop} (h:eY X (compareOp op) r) (ho:oF X.K r p) (ha:VR X Z a fa) (hb:VR X Z b fb) (hm:behindInMarks op b=false):VP X Z (.Compare a [op] [b] pos) (f2 fa fb p) :=
 .mk fun tm=>PE.weak (Hk h (ha tm) (hb tm) hm) (two ho)
noncomputable def qv (f:FP):FB:=fun ρ Q=>f ρ fun r=>match r with
 | .vw (.bl c)=>Q c
 | _=>False
theorem yc {r:Rt} {Q:Bool→Prop} (h:match r with | .vw (.bl c)=>Q c | _=>False):∃ c,r = .vw (.bl c)∧Q c:=by
 split at h
 · exact ⟨_,rfl,h⟩
 · exact h.elim
theorem kb {op:CmpOp} {r:R2} {fa fb:FE} {p:T→T→(Rt→Prop)→Prop} (h:eY X (compareOp op) r) (ho:oF X.K r p) (ha:VR X Z a fa) (hb:VR X Z b fb) (hm:behindInMarks op b=false):VC X Z (.Compare a [op] [b] pos) (qv (f2 fa fb p)) :=
 .mk fun tm=>PT.weak (Hl h (ha tm) (hb tm) hm) fun σ H Q ⟨ρ,O,q,I,hf,k⟩=>two ho σ H _ ⟨ρ,O,_,I,hf,fun t ht u H' s a=>by
  obtain ⟨c,rfl,hc⟩:=yc ht
  have e:=a.2
  simp only [At] at e
  exact ⟨c,e,k c hc H' s⟩⟩
theorem dH {f:FP} (h:VP X Z e f) (he:∀ whole,isTrue e X.env whole=(do let v ← whole; standAt e.pos; holding [v] (truthy v)):=by intro _; rfl):VC X Z e (qv f) :=
 .mk fun tm=>PT.weak (LA (h tm) he) fun σ H Q ⟨ρ,O,q,I,hf,k⟩=>⟨ρ,O,_,I,hf,fun t ht u H' s a=>by
  obtain ⟨c,rfl,hc⟩:=yc ht
  have e:=a.2
  simp only [At] at e
  exact ⟨c,e,k c hc H' s⟩⟩
noncomputable def Xk (f g:FB):FB:=fun ρ Q=>f ρ fun c=>if c=true then g ρ Q else Q false
noncomputable def fOr (f g:FB):FB:=fun ρ Q=>f ρ fun c=>if c=true then Q true else g ρ Q
noncomputable def Xl (f:FB):FB:=fun ρ Q=>f ρ fun c=>Q (!c)
theorem VW.vc {f:FB} (h:VW X Z e f):VC X Z e f:=.mk fun tm=>PW.pt (h tm)
theorem cS {f:FB} (h:VC X Z a f):VW X Z (.BoolOp .And [a] pos) f:=.mk fun tm=>pw_and1 (h tm)
theorem iF {f:FB} (h:VC X Z a f):VW X Z (.BoolOp .Or [a] pos) f:=.mk fun tm=>pw_or1 (h tm)
theorem du {rest:List Expr} {f g:FB} (h:VC X Z a f) (h':VW X Z (.BoolOp .And (b :: rest) pos) g):VW X Z (.BoolOp .And (a :: b :: rest) pos) (Xk f g) :=
 .mk fun tm=>PW.weak (pw_and (h tm) (h' tm)) fun σ H Q ⟨ρ,O,q,I,hf,k⟩=>⟨ρ,O,_,I,hf,fun c hc H1 s1=>by
  cases c with
  | true=>rw [if_pos rfl] at hc ⊢; exact ⟨ρ,O,q,I.same s1,hc,fun b hb H' s=>k b hb H' (s1.trans s)⟩
  | false=>rw [if_neg c7] at hc ⊢; exact k false hc H1 s1⟩
theorem jY {rest:List Expr} {f g:FB} (h:VC X Z a f) (h':VW X Z (.BoolOp .Or (b :: rest) pos) g):VW X Z (.BoolOp .Or (a :: b :: rest) pos) (fOr f g) :=
 .mk fun tm=>PW.weak (pw_or (h tm) (h' tm)) fun σ H Q ⟨ρ,O,q,I,hf,k⟩=>⟨ρ,O,_,I,hf,fun c hc H1 s1=>by
  cases c with
  | true=>rw [if_pos rfl] at hc ⊢; exact k true hc H1 s1
  | false=>rw [if_neg c7] at hc ⊢; exact ⟨ρ,O,q,I.same s1,hc,fun b hb H' s=>k b hb H' (s1.trans s)⟩⟩
theorem fq {f:FB} (h:VC X Z a f):VC X Z (.UnaryOp .Not a pos) (Xl f) :=
 .mk fun tm=>PT.weak (LB (h tm)) fun σ H Q ⟨ρ,O,q,I,hf,k⟩=>⟨ρ,O,_,I,hf,fun c hc H1 s1=>k _ hc H1 s1⟩
noncomputable def Q0 (f g:FP):FP:=fun ρ Q=>f ρ fun r=>match r with
 | .vw (.bl true)=>g ρ Q
 | .vw (.bl false)=>Q (.vw (.bl false))
 | _=>False
noncomputable def Xm (f g:FP):FP:=fun ρ Q=>f ρ fun r=>match r with
 | .vw (.bl true)=>Q (.vw (.bl true))
 | .vw (.bl false)=>g ρ Q
 | _=>False
noncomputable def Q1 (f:FP):FP:=fun ρ Q=>f ρ fun r=>match r with
 | .vw (.bl c)=>Q (.vw (.bl (!c)))
 | _=>False
theorem kc {op} {f:FP} (h:VP X Z a f):VP X Z (.BoolOp op [a] pos) f:=.mk fun tm=>LC (h tm)
theorem oG {rest:List Expr} {f g:FP} (h:VP X Z a f) (h':VP X Z (.BoolOp .And (b :: rest) pos) g):VP X Z (.BoolOp .And (a :: b :: rest) pos) (Q0 f g) :=
 .mk fun tm=>PE.weak (LD (h tm) (h' tm)) fun σ H Q ⟨ρ,O,q,I,hf,k⟩=>⟨ρ,O,_,I,hf,fun r hr v H1 s1 z=>by
  split at hr
  · have e:=z.2; simp only [At] at e
    exact ⟨true,e,by rw [if_pos rfl]; exact ⟨ρ,O,q,I.same s1,hr,fun b hb v H' s=>k b hb v H' (s1.trans s)⟩⟩
  · have e:=z.2; simp only [At] at e
    exact ⟨false,e,by rw [if_neg c7]; exact k _ hr _ H1 s1 ⟨I.same s1,c_⟩⟩
  · exact hr.elim⟩
theorem zE {rest:List Expr} {f g:FP} (h:VP X Z a f) (h':VP X Z (.BoolOp .Or (b :: rest) pos) g):VP X Z (.BoolOp .Or (a :: b :: rest) pos) (Xm f g) :=
 .mk fun tm=>PE.weak (P_ (h tm) (h' tm)) fun σ H Q ⟨ρ,O,q,I,hf,k⟩=>⟨ρ,O,_,I,hf,fun r hr v H1 s1 z=>by
  split at hr
  · have e:=z.2; simp only [At] at e
    exact ⟨true,e,by rw [if_pos rfl]; exact k _ hr _ H1 s1 ⟨I.same s1,c_⟩⟩
  · have e:=z.2; simp only [At] at e
    exact ⟨false,e,by rw [if_neg c7]; exact ⟨ρ,O,q,I.same s1,hr,fun b hb v H' s=>k b hb v H' (s1.trans s)⟩⟩
  · exact hr.elim⟩
theorem Ml {f:FP} (h:VP X Z a f):VP X Z (.UnaryOp .Not a pos) (Q1 f) :=
 .mk fun tm=>PE.weak (LF (h tm)) fun σ H Q ⟨ρ,O,q,I,hf,k⟩=>⟨ρ,O,_,I,hf,fun r hr v H1 s1 z=>by
  split at hr
  · have e:=z.2; simp only [At] at e
    exact ⟨_,e,k _ hr _ H1 s1 ⟨I.same s1,c_⟩⟩
  · exact hr.elim⟩
noncomputable def fIf (c:FB) (f g:FP):FP:=fun ρ Q=>c ρ fun b=>if b=true then f ρ Q else g ρ Q
theorem Ko {c:Expr} {fc:FB} {f g:FP} (hc:VC X Z c fc) (h:VP X Z a f) (h':VP X Z b g):VP X Z (.IfExp c a b pos) (fIf fc f g) :=
 .mk fun tm=>PE.weak (CQ (hc tm) (h tm) (h' tm)) fun σ H Q ⟨ρ,O,q,I,hf,k⟩=>⟨ρ,O,_,I,hf,fun c hc H1 s1=>by
  cases c with
  | true=>rw [if_pos rfl] at hc ⊢; exact ⟨ρ,O,q,I.same s1,hc,fun b hb v H' s=>k b hb v H' (s1.trans s)⟩
  | false=>rw [if_neg c7] at hc ⊢; exact ⟨ρ,O,q,I.same s1,hc,fun b hb v H' s=>k b hb v H' (s1.trans s)⟩⟩
noncomputable def A1:FA:=fun _ Q=>Q []
noncomputable def oH (f:FE) (g:FA):FA:=fun ρ Q=>f ρ fun t=>g ρ fun ts=>Q (t :: ts)
theorem ai:VA X Z [] A1:=.mk fun tm=>PA.weak d6 fun σ H Q ⟨ρ,O,q,I,hf,k⟩=>k _ hf [] H (aX.refl H) aA.nil
theorem ae {f:FE} {g:FA} (h:VE X Z e f) (h':VA X Z es g) (hs:starEach (e :: es) X.env=(false,eval e X.env) :: starEach es X.env:=by rfl):VA X Z (e :: es) (oH f g) :=
 .mk fun tm=>PA.weak (bS (h tm) (h' tm) hs) fun σ H Q ⟨ρ,O,q,I,hf,k⟩=>⟨ρ,O,_,I,hf,fun t ht v H1 s1 a1=>⟨ρ,O,_,I.same s1,ht,fun ts fj vs H2 s2 a2=>k _ fj _ H2 (s1.trans s2) (aA.cons (a1.same s2) a2)⟩⟩
theorem az:HK X Z [] A1:=.mk fun tm=>PA.weak d6 fun σ H Q ⟨ρ,O,q,I,hf,k⟩=>k _ hf [] H (aX.refl H) .nil
theorem ar {f:FE} {g:FA} (h:VR X Z e f) (h':HK X Z es g) (hs:starEach (e :: es) X.env=(false,eval e X.env) :: starEach es X.env:=by rfl):HK X Z (e :: es) (oH f g) :=
 .mk fun tm=>PA.weak (bS (h tm) (h' tm) hs) fun σ H Q ⟨ρ,O,q,I,hf,k⟩=>⟨ρ,O,_,I,hf,fun t ht v H1 s1 a1=>⟨ρ,O,_,I.same s1,ht,fun ts fj vs H2 s2 a2=>k _ fj _ H2 (s1.trans s2) (.cons (a1.same s2) a2)⟩⟩
noncomputable def Xn (g:FA):FP:=fun ρ Q=>g ρ fun ts=>ts.length≤sizeLine∧Q (.vw (.tup ts))
noncomputable def Xo (g:FA):FP:=fun ρ Q=>g ρ fun ts=>ts.length≤sizeLine∧Q (.fr (.lst ts))
theorem bw {g:FA} {x1} (h:VA X Z es g):VP X Z (.Tuple es x1 pos) (Xn g) :=
 .mk fun tm=>PE.weak (C3 (h tm)) fun σ H Q ⟨ρ,O,q,I,hf,k⟩=>⟨ρ,O,_,I,hf,fun ts fj vs H1 s1 a1=>⟨by rw [a1.length]; exact fj.1,fun p hp=>k _ fj.2 _ _ (s1.trans (aU hp)) ⟨(I.same s1).same (aU hp),bu (dZ.of a_) (a1.same (aU hp))⟩⟩⟩
theorem cg {g:FA} (h:VA X Z es g):VP X Z (.List es pos) (Xo g) :=
 .mk fun tm=>PE.weak (L4 (h tm)) fun σ H Q ⟨ρ,O,q,I,hf,k⟩=>⟨ρ,O,_,I,hf,fun ts fj vs H1 s1 a1=>⟨by rw [a1.length]; exact fj.1,fun p hp=>k _ fj.2 _ _ (s1.trans (aU hp)) ((I.same s1).A0 hp a1)⟩⟩
end
mutual
noncomputable def eqT:T→T→Bool
 | .bb,.bb=>true
 | .bl a,.bl b=>a == b
 | .bl a,.int b=>(if a then 1 else 0) == b
 | .int a,.bl b=>a == (if b then 1 else 0)
 | .int a,.int b=>a == b
 | .str a,.str b=>a == b
 | .tup a,.tup b=>fW a b
 | .lst a,.lst b=>fW a b
 | _,_=>false
noncomputable def fW:List T→List T→Bool
 | [],[]=>true
 | a :: as,b :: bs=>eqT a b && fW as bs
 | _,_=>false
end
mutual
noncomputable def plainT:T→Bool
 | .tup l=>bZ l
 | .lst l=>bZ l
 | .dk _ _=>false
 | .dt _ _=>false
 | .df _ _ _=>false
 | .dz _ _ _=>false
 | .kt _=>false
 | .ins _ _ _=>false
 | .pin _ _=>false
 | .ob _=>false
 | .ty _=>false
 | _=>true
noncomputable def bZ:List T→Bool
 | []=>true
 | t :: ts=>plainT t && bZ ts
end
mutual
noncomputable def dep:T→Nat
 | .tup l=>oI l+1
 | .lst l=>oI l+1
 | _=>0
noncomputable def oI:List T→Nat
 | []=>0
 | t :: ts=>max (dep t) (oI ts)
end
mutual
theorem dI:∀ (t:T),plainT t=true→eqT t t=true
 | .bb,_=>by simp [eqT]
 | .bl _,_=>by simp [eqT]
 | .int _,_=>by simp [eqT]
 | .str _,_=>by simp [eqT]
 | .tup l,h=>by simp only [plainT] at h; simp only [eqT]; exact mf l h
 | .lst l,h=>by simp only [plainT] at h; simp only [eqT]; exact mf l h
 | .dk _ _,h=>by simp only [plainT] at h; cases h
 | .dt _ _,h=>by simp only [plainT] at h; cases h
 | .df _ _ _,h=>by simp only [plainT] at h; cases h
 | .dz _ _ _,h=>by simp only [plainT] at h; cases h
 | .kt _,h=>by simp only [plainT] at h; cases h
 | .ins _ _ _,h=>by simp only [plainT] at h; cases h
 | .pin _ _,h=>by simp only [plainT] at h; cases h
 | .ob _,h=>by simp only [plainT] at h; cases h
 | .ty _,h=>by simp only [plainT] at h; cases h
theorem mf:∀ (t:List T),bZ t=true→fW t t=true
 | [],_=>by simp [fW]
 | t :: ts,h=>by
   simp only [bZ,kB] at h
   simp only [fW,kB]
   exact ⟨dI t h.1,mf ts h.2⟩
end
theorem jm:∀ {a b:List T},fW a b=true→a.length=b.length
 | [],[],_=>rfl
 | a :: as,b :: bs,h=>by simp only [fW,kB] at h; simp [jm h.2]
 | [],_ :: _,h=>by simp [fW] at h
 | _ :: _,[],h=>by simp [fW] at h
theorem jn:∀ {a b:List T},a.length=b.length→fW a b=(List.range a.length).all fun j=>match a[j]?,b[j]? with
  | some x,some y=>eqT x y
  | _,_=>true
 | [],[],_=>by simp [fW]
 | a :: as,b :: bs,h=>by
   have ih:=jn (a:=as) (b:=bs) (by simpa using h)
   simp only [fW]
   rw [ih,Ax,List.range_succ_eq_map,xI,List.all_map]
   rfl
 | [],_ :: _,h=>by simp at h
 | _ :: _,[],h=>by simp at h
theorem oJ:∀ {a b:List T},fW a b=((List.range (min a.length b.length)).all (fun j=>match a[j]?,b[j]? with
  | some x,some y=>eqT x y
  | _,_=>true) && a.length == b.length)
 | a,b=>by
   by_cases h:a.length=b.length
   · rw [jn h,h,Nat.min_self]; simp
   · have e:(a.length == b.length)=false:=by simpa using h
     rw [e,G3]
     cases q:fW a b with
     | false=>rfl
     | true=>exact absurd (jm q) h
section
variable {X:Cx} {pins:List (Addr×Obj)} {σ:St} {H:Hp} {s:Shared} {O O':List Addr}
theorem vi (I:Inv X pins σ H s) {a:Addr} {xs ys:List V} (h:gy X.K H a xs) (h':dZ X.K H a ys):False:=by
 obtain ⟨aP,_,p,_⟩:=I.list h
 obtain ⟨dF,_,p2,_⟩:=I.tuple h'
 obtain ⟨o,n,e,c,_⟩:=p
 obtain ⟨o2,e2,c2,_⟩:=p2
 rw [e] at e2
 cases e2
 rw [c] at c2
 injection c2 with c2
 exact absurd c2 (by decide)
mutual
theorem At.inj (I:Inv X pins σ H s):∀ {t u:T} {v:V},plainT t=true→plainT u=true→At X.K H O t v→At X.K H O' u v→t=u
 | .bb,u,v,_,pu,h,h'=>by
   simp only [At] at h; subst h
   cases u <;> simp only [At] at h' <;> first | rfl | (simp only [plainT] at pu; cases pu; done) | (obtain ⟨_,_,e,_⟩:=h'; cases e) | (cases h'; done)
 | .bl b,u,v,_,pu,h,h'=>by
   simp only [At] at h; subst h
   cases u <;> simp only [At] at h' <;> first | (simp only [plainT] at pu; cases pu; done) | (obtain ⟨_,_,e,_⟩:=h'; cases e; done) | (cases h'; rfl) | (cases h'; done)
 | .int b,u,v,_,pu,h,h'=>by
   simp only [At] at h; subst h
   cases u <;> simp only [At] at h' <;> first | (simp only [plainT] at pu; cases pu; done) | (obtain ⟨_,_,e,_⟩:=h'; cases e; done) | (cases h'; rfl) | (cases h'; done)
 | .str b,u,v,_,pu,h,h'=>by
   simp only [At] at h; subst h
   cases u <;> simp only [At] at h' <;> first | (simp only [plainT] at pu; cases pu; done) | (obtain ⟨_,_,e,_⟩:=h'; cases e; done) | (cases h'; rfl) | (cases h'; done)
 | .dk _ _,_,_,p,_,_,_=>by simp only [plainT] at p; cases p
 | .dt _ _,_,_,p,_,_,_=>by simp only [plainT] at p; cases p
 | .df _ _ _,_,_,p,_,_,_=>by simp only [plainT] at p; cases p
 | .dz _ _ _,_,_,p,_,_,_=>by simp only [plainT] at p; cases p
 | .kt _,_,_,p,_,_,_=>by simp only [plainT] at p; cases p
 | .ins _ _ _,_,_,p,_,_,_=>by simp only [plainT] at p; cases p
 | .pin _ _,_,_,p,_,_,_=>by simp only [plainT] at p; cases p
 | .ob _,_,_,p,_,_,_=>by simp only [plainT] at p; cases p
 | .ty _,_,_,p,_,_,_=>by simp only [plainT] at p; cases p
 | .tup ts,u,v,p,pu,h,h'=>by
   simp only [At] at h
   obtain ⟨a,vs,rfl,h1,h2⟩:=h
   cases u with
   | tup us =>
     simp only [At] at h'
     obtain ⟨b,ws,e,g1,g2⟩:=h'
     cases e
     cases I.lW h1 g1
     simp only [plainT] at p pu
     rw [aA.inj I p pu h2 g2]
   | lst us =>
     simp only [At] at h'
     obtain ⟨b,ws,e,g1,g2⟩:=h'
     cases e
     exact (vi I g1.sq h1).elim
   | dk _ _=>simp only [plainT] at pu; cases pu
   | dt _ _=>simp only [plainT] at pu; cases pu
   | df _ _ _=>simp only [plainT] at pu; cases pu
   | dz _ _ _=>simp only [plainT] at pu; cases pu
   | kt _=>simp only [plainT] at pu; cases pu
   | ins _ _ _=>simp only [plainT] at pu; cases pu
   | pin _ _=>simp only [plainT] at pu; cases pu
   | ob _=>simp only [plainT] at pu; cases pu
   | ty _=>simp only [plainT] at pu; cases pu
   | _=>simp only [At] at h'; cases h'
 | .lst ts,u,v,p,pu,h,h'=>by
   simp only [At] at h
   obtain ⟨a,vs,rfl,h1,h2⟩:=h
   cases u with
   | lst us =>
     simp only [At] at h'
     obtain ⟨b,ws,e,g1,g2⟩:=h'
     cases e
     cases I.kG h1.sq g1.sq
     simp only [plainT] at p pu
     rw [aA.inj I p pu h2 g2]
   | tup us =>
     simp only [At] at h'
     obtain ⟨b,ws,e,g1,g2⟩:=h'
     cases e
     exact (vi I h1.sq g1).elim
   | dk _ _=>simp only [plainT] at pu; cases pu
   | dt _ _=>simp only [plainT] at pu; cases pu
   | df _ _ _=>simp only [plainT] at pu; cases pu
   | dz _ _ _=>simp only [plainT] at pu; cases pu
   | kt _=>simp only [plainT] at pu; cases pu
   | ins _ _ _=>simp only [plainT] at pu; cases pu
   | pin _ _=>simp only [plainT] at pu; cases pu
   | ob _=>simp only [plainT] at pu; cases pu
   | ty _=>simp only [plainT] at pu; cases pu
   | _=>simp only [At] at h'; cases h'
theorem aA.inj (I:Inv X pins σ H s):∀ {ts us:List T} {vs:List V},bZ ts=true→bZ us=true→aA X.K H O ts vs→aA X.K H O' us vs→ts=us
 | [],[],_,_,_,_,_=>rfl
 | [],_ :: _,_,_,_,h,h'=>by simp only [aA] at h h'; subst h; obtain ⟨_,_,e,_⟩:=h'; cases e
 | _ :: _,[],_,_,_,h,h'=>by simp only [aA] at h h'; subst h'; obtain ⟨_,_,e,_⟩:=h; cases e
 | t :: ts,u :: us,_,p,pu,h,h'=>by
   simp only [aA] at h h'
   simp only [bZ,kB] at p pu
   obtain ⟨v,r,rfl,h1,h2⟩:=h
   obtain ⟨v',r',e,g1,g2⟩:=h'
   cases e
   rw [At.inj I p.1 pu.1 h1 g1,aA.inj I p.2 pu.2 h2 g2]
end
theorem iG:∀ {ts:List T} {j:Nat} {x:T},ts[j]?=some x→dep x≤oI ts
 | [],_,_,h=>by simp at h
 | t :: ts,0,x,h=>by simp at h; subst h; simp only [oI]; omega
 | t :: ts,j+1,x,h=>by have:=iG (ts:=ts) (j:=j) (x:=x) (by simpa using h); simp only [oI]; omega
theorem bD:∀ {ts:List T} {j:Nat} {x:T},bZ ts=true→ts[j]?=some x→plainT x=true
 | [],_,_,_,h=>by simp at h
 | t :: ts,0,x,p,h=>by simp at h; subst h; simp only [bZ,kB] at p; exact p.1
 | t :: ts,j+1,x,p,h=>by simp only [bZ,kB] at p; exact bD (ts:=ts) (j:=j) p.2 (by simpa using h)
theorem in1_units (A:Around):A.in1.units=A.units+1:=by
 first | rfl | simp [Around.in1,Around.units]
theorem hV (I:Inv X pins σ H s) {ts us:List T} {vs ws:List V} {aP dF:List Value} {A:Around} (h1:aA X.K H O ts vs) (h2:aA X.K H O' us ws) (r1:Vals vs aP) (r2:Vals ws dF)
  (key:∀ (j:Nat) x y v w u u',ts[j]?=some x→us[j]?=some y→At X.K H O x v→At X.K H O' y w→RelV v u→RelV w u'→SeqAt.EqAt A s u u' (eqT x y)) :
  ∀ (j:Nat) (g1:j < aP.toArray.size) (g2:j < dF.toArray.size),SeqAt.EqAt A s aP.toArray[j] dF.toArray[j] (match ts[j]?,us[j]? with
   | some x,some y=>eqT x y
   | _,_=>true):=fun j g1 g2=>by
 have l1:=h1.length
 have l2:=h2.length
 have m1:=r1.length
 have m2:=r2.length
 simp only [g8] at g1 g2
 have e1:ts[j]?=some (ts[j]'(by omega)):=by simp
 have e2:us[j]?=some (us[j]'(by omega)):=by simp
 obtain ⟨v,a1,a2⟩:=h1.get e1
 obtain ⟨w,b1,b2⟩:=h2.get e2
 obtain ⟨u,c1,c2⟩:=r1.get a1
 obtain ⟨u',d1,d2⟩:=r2.get b1
 have f1:aP.toArray[j]=u:=by rw [fD (by omega)] at c1; simpa using c1
 have f2:dF.toArray[j]=u':=by rw [fD (by omega)] at d1; simpa using d1
 rw [f1,f2,e1,e2]
 exact key j _ _ v w u u' e1 e2 a2 b2 c2 d2
theorem sP (I:Inv X pins σ H s):∀ (n:Nat) (t u:T) (v w:V) (a b:Value) (A:Around),dep t≤n→A.units+n < cLine→plainT t=true→plainT u=true→At X.K H O t v→At X.K H O' u w→RelV v a→RelV w b→SeqAt.EqAt A s a b (eqT t u):=by
 intro n
 induction n with
 | zero =>
   intro t u v w a b A hd hu pt pu ht hw rv rw'
   have cF:A.units < cLine:=by omega
   cases t with
   | tup l=>simp only [dep] at hd; omega
   | lst l=>simp only [dep] at hd; omega
   | bb =>
     simp only [At] at ht; subst ht; cases rv
     cases u with
     | tup l=>simp only [At] at hw; obtain ⟨p,ws,rfl,q,_⟩:=hw; cases rw'; obtain ⟨_,_,p1,_⟩:=I.tuple q; simp only [eqT]; exact SeqAt.EqAt.none_tuple p1 cF
     | lst l=>simp only [At] at hw; obtain ⟨p,ws,rfl,q,_⟩:=hw; cases rw'; obtain ⟨_,_,p1,_⟩:=I.list q.sq; simp only [eqT]; exact SeqAt.EqAt.none_list p1.isList cF
     | bb=>simp only [At] at hw; subst hw; cases rw'; simp only [eqT]; exact SeqAt.EqAt.same _
     | bl c=>simp only [At] at hw; subst hw; cases rw'; simp only [eqT]; exact SeqAt.EqAt.none_bool c
     | int c=>simp only [At] at hw; subst hw; obtain ⟨t,rfl⟩:=rw'; simp only [eqT]; exact SeqAt.EqAt.none_int c t
     | str c=>simp only [At] at hw; subst hw; obtain ⟨t,rfl⟩:=rw'; simp only [eqT]; exact SeqAt.EqAt.none_str c t
     | _=>simp only [plainT] at pu; cases pu
   | bl d =>
     simp only [At] at ht; subst ht; cases rv
     cases u with
     | tup l=>simp only [At] at hw; obtain ⟨p,ws,rfl,q,_⟩:=hw; cases rw'; obtain ⟨_,_,p1,_⟩:=I.tuple q; simp only [eqT]; exact SeqAt.EqAt.bool_tuple d p1 cF
     | lst l=>simp only [At] at hw; obtain ⟨p,ws,rfl,q,_⟩:=hw; cases rw'; obtain ⟨_,_,p1,_⟩:=I.list q.sq; simp only [eqT]; exact SeqAt.EqAt.bool_list d p1.isList cF
     | bb=>simp only [At] at hw; subst hw; cases rw'; simp only [eqT]; exact SeqAt.EqAt.bool_none d
     | bl c=>simp only [At] at hw; subst hw; cases rw'; simp only [eqT]; exact SeqAt.EqAt.bool_bool d c
     | int c=>simp only [At] at hw; subst hw; obtain ⟨t,rfl⟩:=rw'; simp only [eqT]; exact SeqAt.EqAt.bool_int d c t
     | str c=>simp only [At] at hw; subst hw; obtain ⟨t,rfl⟩:=rw'; simp only [eqT]; exact SeqAt.EqAt.bool_str d c t
     | _=>simp only [plainT] at pu; cases pu
   | int d =>
     simp only [At] at ht; subst ht; obtain ⟨t',rfl⟩:=rv
     cases u with
     | tup l=>simp only [At] at hw; obtain ⟨p,ws,rfl,q,_⟩:=hw; cases rw'; obtain ⟨_,_,p1,_⟩:=I.tuple q; simp only [eqT]; exact SeqAt.EqAt.int_tuple d t' p1 cF
     | lst l=>simp only [At] at hw; obtain ⟨p,ws,rfl,q,_⟩:=hw; cases rw'; obtain ⟨_,_,p1,_⟩:=I.list q.sq; simp only [eqT]; exact SeqAt.EqAt.int_list d t' p1.isList cF
     | bb=>simp only [At] at hw; subst hw; cases rw'; simp only [eqT]; exact SeqAt.EqAt.int_none d t'
     | bl c=>simp only [At] at hw; subst hw; cases rw'; simp only [eqT]; exact SeqAt.EqAt.int_bool d t' c
     | int c=>simp only [At] at hw; subst hw; obtain ⟨t,rfl⟩:=rw'; simp only [eqT]; exact SeqAt.EqAt.int_int d t' c t
     | str c=>simp only [At] at hw; subst hw; obtain ⟨t,rfl⟩:=rw'; simp only [eqT]; exact SeqAt.EqAt.int_str d t' c t
     | _=>simp only [plainT] at pu; cases pu
   | str d =>
     simp only [At] at ht; subst ht; obtain ⟨t',rfl⟩:=rv
     cases u with
     | tup l=>simp only [At] at hw; obtain ⟨p,ws,rfl,q,_⟩:=hw; cases rw'; obtain ⟨_,_,p1,_⟩:=I.tuple q; simp only [eqT]; exact SeqAt.EqAt.str_tuple d t' p1 cF
     | lst l=>simp only [At] at hw; obtain ⟨p,ws,rfl,q,_⟩:=hw; cases rw'; obtain ⟨_,_,p1,_⟩:=I.list q.sq; simp only [eqT]; exact SeqAt.EqAt.str_list d t' p1.isList cF
     | bb=>simp only [At] at hw; subst hw; cases rw'; simp only [eqT]; exact SeqAt.EqAt.str_none d t'
     | bl c=>simp only [At] at hw; subst hw; cases rw'; simp only [eqT]; exact SeqAt.EqAt.str_bool d t' c
     | int c=>simp only [At] at hw; subst hw; obtain ⟨t,rfl⟩:=rw'; simp only [eqT]; exact SeqAt.EqAt.str_int d t' c t
     | str c=>simp only [At] at hw; subst hw; obtain ⟨t,rfl⟩:=rw'; simp only [eqT]; exact SeqAt.EqAt.str_str d t' c t
     | _=>simp only [plainT] at pu; cases pu
   | _=>simp only [plainT] at pt; cases pt
 | succ n ih =>
   intro t u v w a b A hd hu pt pu ht hw rv rw'
   by_cases h0:dep t≤n
   · exact ih t u v w a b A h0 (by omega) pt pu ht hw rv rw'
   · have cF:A.units < cLine:=by omega
     have zF:A.in1.units+n < cLine:=by rw [in1_units]; omega
     cases t with
     | tup l =>
       simp only [plainT] at pt
       simp only [dep] at hd
       have Xp:=ht
       simp only [At] at ht
       obtain ⟨p,vs,rfl,h1,h2⟩:=ht
       cases rv
       obtain ⟨aP,r1,p1,_⟩:=I.tuple h1
       cases u with
       | tup l' =>
         have Xq:=hw
         simp only [At] at hw
         obtain ⟨p',ws,rfl,g1,g2⟩:=hw
         cases rw'
         simp only [plainT] at pu
         by_cases e:p=p'
         · subst e
           have:=At.inj I (t:=.tup l) (u:=.tup l') (by simp only [plainT]; exact pt) (by simp only [plainT]; exact pu) Xp Xq
           rw [← this,dI _ (by simp only [plainT]; exact pt)]
           exact SeqAt.EqAt.same _
         · obtain ⟨dF,r2,p2,_⟩:=I.tuple g1
           refine SeqAt.EqAt.of_refs e ?_
           have:=SeqAt.RcAt.tuples (A:=A) p1 p2 cF (hV I h2 g2 r1 r2 fun j x y v w u u' e1 e2 a1 a2 b1 b2=>ih x y v w u u' A.in1 (nI (iG e1) (by omega)) zF (bD pt e1) (bD pu e2) a1 a2 b1 b2)
           simp only [eqT]
           rw [oJ]
           have e1:=r1.length
           have e2:=r2.length
           have e3:=h2.length
           have e4:=g2.length
           simp only [g8] at this
           rw [← e1,← e2,e3,e4] at this
           exact this
       | lst l'=>simp only [At] at hw; obtain ⟨p',ws,rfl,q,_⟩:=hw; cases rw'; obtain ⟨_,_,p2,_⟩:=I.list q.sq; simp only [eqT]; exact SeqAt.EqAt.tuple_list p1 p2.isList cF
       | bb=>simp only [At] at hw; subst hw; cases rw'; simp only [eqT]; exact SeqAt.EqAt.tuple_none p1 cF
       | bl c=>simp only [At] at hw; subst hw; cases rw'; simp only [eqT]; exact SeqAt.EqAt.tuple_bool c p1 cF
       | int c=>simp only [At] at hw; subst hw; obtain ⟨t,rfl⟩:=rw'; simp only [eqT]; exact SeqAt.EqAt.tuple_int c t p1 cF
       | str c=>simp only [At] at hw; subst hw; obtain ⟨t,rfl⟩:=rw'; simp only [eqT]; exact SeqAt.EqAt.tuple_str c t p1 cF
       | _=>simp only [plainT] at pu; cases pu
     | lst l =>
       simp only [plainT] at pt
       simp only [dep] at hd
       have Xp:=ht
       simp only [At] at ht
       obtain ⟨p,vs,rfl,h1,h2⟩:=ht
       cases rv
       obtain ⟨aP,r1,p1,_⟩:=I.list h1.sq
       cases u with
       | lst l' =>
         have Xq:=hw
         simp only [At] at hw
         obtain ⟨p',ws,rfl,g1,g2⟩:=hw
         cases rw'
         simp only [plainT] at pu
         by_cases e:p=p'
         · subst e
           have:=At.inj I (t:=.lst l) (u:=.lst l') (by simp only [plainT]; exact pt) (by simp only [plainT]; exact pu) Xp Xq
           rw [← this,dI _ (by simp only [plainT]; exact pt)]
           exact SeqAt.EqAt.same _
         · obtain ⟨dF,r2,p2,_⟩:=I.list g1.sq
           refine SeqAt.EqAt.of_refs e ?_
           have e1:=r1.length
           have e2:=r2.length
           have e3:=h2.length
           have e4:=g2.length
           by_cases hl:l.length=l'.length
           · have:=SeqAt.RcAt.lists (A:=A) p1.isList p2.isList (by simp only [g8]; omega) cF (hV I h2 g2 r1 r2 fun j x y v w u u' e1 e2 a1 a2 b1 b2=>ih x y v w u u' A.in1 (nI (iG e1) (by omega)) zF (bD pt e1) (bD pu e2) a1 a2 b1 b2)
             simp only [eqT]
             rw [jn hl]
             simp only [g8] at this
             rw [← e1,e3] at this
             exact this
           · simp only [eqT]
             have:fW l l'=false:=by
              cases q:fW l l' with
              | false=>rfl
              | true=>exact absurd (jm q) hl
             rw [this]
             exact SeqAt.RcAt.lists_lengths p1.isList p2.isList (by simp only [g8]; rw [bne_iff_ne]; omega) cF
       | tup l'=>simp only [At] at hw; obtain ⟨p',ws,rfl,q,_⟩:=hw; cases rw'; obtain ⟨_,_,p2,_⟩:=I.tuple q; simp only [eqT]; exact SeqAt.EqAt.list_tuple p1.isList p2 cF
       | bb=>simp only [At] at hw; subst hw; cases rw'; simp only [eqT]; exact SeqAt.EqAt.list_none p1.isList cF
       | bl c=>simp only [At] at hw; subst hw; cases rw'; simp only [eqT]; exact SeqAt.EqAt.list_bool c p1.isList cF
       | int c=>simp only [At] at hw; subst hw; obtain ⟨t,rfl⟩:=rw'; simp only [eqT]; exact SeqAt.EqAt.list_int c t p1.isList cF
       | str c=>simp only [At] at hw; subst hw; obtain ⟨t,rfl⟩:=rw'; simp only [eqT]; exact SeqAt.EqAt.list_str c t p1.isList cF
       | _=>simp only [plainT] at pu; cases pu
     | _=>exact absurd (qe n) h0
end
section
variable {X:Cx} {pins:List (Addr×Obj)} {σ:St} {H:Hp} {s:Shared} {O O':List Addr}
theorem Mm (I:Inv X pins σ H s) (t u:T) (v w:V) (a b:Value) (A:Around) (hd:dep t≤100) (hu:A.units+101 < cLine) (pt:plainT t=true) (pu:plainT u=true) (ht:At X.K H O t v) (hw:At X.K H O' u w) (rv:RelV v a) (rw':RelV w b):SeqAt.RcAt A s a b (eqT t u):=by
 have cF:A.units < cLine:=by omega
 have zF:A.in1.units+100 < cLine:=by rw [in1_units]; omega
 cases t with
 | bb =>
   simp only [At] at ht; subst ht; cases rv
   cases u with
   | bb =>
     simp only [At] at hw; subst hw; cases rw'
     simp only [eqT]
     exact SeqAt.RcAt.none_none
   | bl c =>
     simp only [At] at hw; subst hw; cases rw'
     simp only [eqT]
     exact SeqAt.RcAt.none_bool c
   | int c =>
     simp only [At] at hw; subst hw; obtain ⟨t2,rfl⟩:=rw'
     simp only [eqT]
     exact SeqAt.RcAt.none_int c t2
   | str c =>
     simp only [At] at hw; subst hw; obtain ⟨t2,rfl⟩:=rw'
     simp only [eqT]
     exact SeqAt.RcAt.none_str c t2
   | tup l=>simp only [At] at hw; obtain ⟨p,ws,rfl,q,_⟩:=hw; cases rw'; obtain ⟨_,_,p1,_⟩:=I.tuple q; simp only [eqT]; exact SeqAt.RcAt.none_tuple p1 cF
   | lst l=>simp only [At] at hw; obtain ⟨p,ws,rfl,q,_⟩:=hw; cases rw'; obtain ⟨_,_,p1,_⟩:=I.list q.sq; simp only [eqT]; exact SeqAt.RcAt.none_list p1.isList cF
   | _=>simp only [plainT] at pu; cases pu
 | bl d =>
   simp only [At] at ht; subst ht; cases rv
   cases u with
   | bb =>
     simp only [At] at hw; subst hw; cases rw'
     simp only [eqT]
     exact SeqAt.RcAt.bool_none d
   | bl c =>
     simp only [At] at hw; subst hw; cases rw'
     simp only [eqT]
     exact SeqAt.RcAt.bool_bool d c
   | int c =>
     simp only [At] at hw; subst hw; obtain ⟨t2,rfl⟩:=rw'
     simp only [eqT]
     exact SeqAt.RcAt.bool_int d c t2
   | str c =>
     simp only [At] at hw; subst hw; obtain ⟨t2,rfl⟩:=rw'
     simp only [eqT]
     exact SeqAt.RcAt.bool_str d c t2
   | tup l=>simp only [At] at hw; obtain ⟨p,ws,rfl,q,_⟩:=hw; cases rw'; obtain ⟨_,_,p1,_⟩:=I.tuple q; simp only [eqT]; exact SeqAt.RcAt.bool_tuple d p1 cF
   | lst l=>simp only [At] at hw; obtain ⟨p,ws,rfl,q,_⟩:=hw; cases rw'; obtain ⟨_,_,p1,_⟩:=I.list q.sq; simp only [eqT]; exact SeqAt.RcAt.bool_list d p1.isList cF
   | _=>simp only [plainT] at pu; cases pu
 | int d =>
   simp only [At] at ht; subst ht; obtain ⟨t1,rfl⟩:=rv
   cases u with
   | bb =>
     simp only [At] at hw; subst hw; cases rw'
     simp only [eqT]
     exact SeqAt.RcAt.int_none d t1
   | bl c =>
     simp only [At] at hw; subst hw; cases rw'
     simp only [eqT]
     exact SeqAt.RcAt.int_bool d t1 c
   | int c =>
     simp only [At] at hw; subst hw; obtain ⟨t2,rfl⟩:=rw'
     simp only [eqT]
     exact SeqAt.RcAt.int_int d t1 c t2
   | str c =>
     simp only [At] at hw; subst hw; obtain ⟨t2,rfl⟩:=rw'
     simp only [eqT]
     exact SeqAt.RcAt.int_str d t1 c t2
   | tup l=>simp only [At] at hw; obtain ⟨p,ws,rfl,q,_⟩:=hw; cases rw'; obtain ⟨_,_,p1,_⟩:=I.tuple q; simp only [eqT]; exact SeqAt.RcAt.int_tuple d t1 p1 cF
   | lst l=>simp only [At] at hw; obtain ⟨p,ws,rfl,q,_⟩:=hw; cases rw'; obtain ⟨_,_,p1,_⟩:=I.list q.sq; simp only [eqT]; exact SeqAt.RcAt.int_list d t1 p1.isList cF
   | _=>simp only [plainT] at pu; cases pu
 | str d =>
   simp only [At] at ht; subst ht; obtain ⟨t1,rfl⟩:=rv
   cases u with
   | bb =>
     simp only [At] at hw; subst hw; cases rw'
     simp only [eqT]
     exact SeqAt.RcAt.str_none d t1
   | bl c =>
     simp only [At] at hw; subst hw; cases rw'
     simp only [eqT]
     exact SeqAt.RcAt.str_bool d t1 c
   | int c =>
     simp only [At] at hw; subst hw; obtain ⟨t2,rfl⟩:=rw'
     simp only [eqT]
     exact SeqAt.RcAt.str_int d t1 c t2
   | str c =>
     simp only [At] at hw; subst hw; obtain ⟨t2,rfl⟩:=rw'
     simp only [eqT]
     exact SeqAt.RcAt.str_str d t1 c t2
   | tup l=>simp only [At] at hw; obtain ⟨p,ws,rfl,q,_⟩:=hw; cases rw'; obtain ⟨_,_,p1,_⟩:=I.tuple q; simp only [eqT]; exact SeqAt.RcAt.str_tuple d t1 p1 cF
   | lst l=>simp only [At] at hw; obtain ⟨p,ws,rfl,q,_⟩:=hw; cases rw'; obtain ⟨_,_,p1,_⟩:=I.list q.sq; simp only [eqT]; exact SeqAt.RcAt.str_list d t1 p1.isList cF
   | _=>simp only [plainT] at pu; cases pu
 | tup l =>
   simp only [plainT] at pt
   simp only [dep] at hd
   simp only [At] at ht
   obtain ⟨p,vs,rfl,h1,h2⟩:=ht
   cases rv
   obtain ⟨aP,r1,p1,_⟩:=I.tuple h1
   cases u with
   | bb =>
     simp only [At] at hw; subst hw; cases rw'
     simp only [eqT]
     exact SeqAt.RcAt.tuple_none p1 cF
   | bl c =>
     simp only [At] at hw; subst hw; cases rw'
     simp only [eqT]
     exact SeqAt.RcAt.tuple_bool c p1 cF
   | int c =>
     simp only [At] at hw; subst hw; obtain ⟨t2,rfl⟩:=rw'
     simp only [eqT]
     exact SeqAt.RcAt.tuple_int c t2 p1 cF
   | str c =>
     simp only [At] at hw; subst hw; obtain ⟨t2,rfl⟩:=rw'
     simp only [eqT]
     exact SeqAt.RcAt.tuple_str c t2 p1 cF
   | tup l' =>
     simp only [At] at hw
     obtain ⟨p',ws,rfl,g1,g2⟩:=hw
     cases rw'
     obtain ⟨dF,r2,p2,_⟩:=I.tuple g1
     simp only [eqT]
     simp only [plainT] at pu
     have e1:=r1.length
     have e2:=r2.length
     have e3:=h2.length
     have e4:=g2.length
     have:=SeqAt.RcAt.tuples (A:=A) p1 p2 cF (hV I h2 g2 r1 r2 fun j x y v w u u' e1 e2 a1 a2 b1 b2=>sP I 100 x y v w u u' A.in1 (nI (iG e1) (by omega)) zF (bD pt e1) (bD pu e2) a1 a2 b1 b2)
     simp only [g8] at this
     rw [← e1,← e2,e3,e4] at this
     rw [oJ]
     exact this
   | lst l' =>
     simp only [At] at hw
     obtain ⟨p',ws,rfl,g1,g2⟩:=hw
     cases rw'
     obtain ⟨dF,r2,p2,_⟩:=I.list g1.sq
     simp only [eqT]
     exact SeqAt.RcAt.tuple_list p1 p2.isList cF
   | _=>simp only [plainT] at pu; cases pu
 | lst l =>
   simp only [plainT] at pt
   simp only [dep] at hd
   simp only [At] at ht
   obtain ⟨p,vs,rfl,h1,h2⟩:=ht
   cases rv
   obtain ⟨aP,r1,p1,_⟩:=I.list h1.sq
   cases u with
   | bb =>
     simp only [At] at hw; subst hw; cases rw'
     simp only [eqT]
     exact SeqAt.RcAt.list_none p1.isList cF
   | bl c =>
     simp only [At] at hw; subst hw; cases rw'
     simp only [eqT]
     exact SeqAt.RcAt.list_bool c p1.isList cF
   | int c =>
     simp only [At] at hw; subst hw; obtain ⟨t2,rfl⟩:=rw'
     simp only [eqT]
     exact SeqAt.RcAt.list_int c t2 p1.isList cF
   | str c =>
     simp only [At] at hw; subst hw; obtain ⟨t2,rfl⟩:=rw'
     simp only [eqT]
     exact SeqAt.RcAt.list_str c t2 p1.isList cF
   | tup l' =>
     simp only [At] at hw
     obtain ⟨p',ws,rfl,g1,g2⟩:=hw
     cases rw'
     obtain ⟨dF,r2,p2,_⟩:=I.tuple g1
     simp only [eqT]
     exact SeqAt.RcAt.list_tuple p1.isList p2 cF
   | lst l' =>
     simp only [At] at hw
     obtain ⟨p',ws,rfl,g1,g2⟩:=hw
     cases rw'
     obtain ⟨dF,r2,p2,_⟩:=I.list g1.sq
     simp only [eqT]
     simp only [plainT] at pu
     have e1:=r1.length
     have e2:=r2.length
     have e3:=h2.length
     have e4:=g2.length
     by_cases hl:l.length=l'.length
     · have:=SeqAt.RcAt.lists (A:=A) p1.isList p2.isList (by simp only [g8]; omega) cF (hV I h2 g2 r1 r2 fun j x y v w u u' e1 e2 a1 a2 b1 b2=>sP I 100 x y v w u u' A.in1 (nI (iG e1) (by omega)) zF (bD pt e1) (bD pu e2) a1 a2 b1 b2)
       simp only [g8] at this
       rw [← e1,e3] at this
       rw [jn hl]
       exact this
     · have:fW l l'=false:=by
        cases q:fW l l' with
        | false=>rfl
        | true=>exact absurd (jm q) hl
       rw [this]
       exact SeqAt.RcAt.lists_lengths p1.isList p2.isList (by simp only [g8]; rw [bne_iff_ne]; omega) cF
   | _=>simp only [plainT] at pu; cases pu
 | _=>simp only [plainT] at pt; cases pt
theorem Mn (I:Inv X pins σ H s) (t u:T) (v w:V) (a b:Value) (A:Around) (hd:dep t≤100) (hu:A.units+101 < cLine) (pt:plainT t=true) (pu:plainT u=true) (ht:At X.K H O t v) (hw:At X.K H O' u w) (rv:RelV v a) (rw':RelV w b):SeqAt.RcNeAt A s a b (!eqT t u):=by
 have cF:A.units < cLine:=by omega
 have zF:A.in1.units+100 < cLine:=by rw [in1_units]; omega
 cases t with
 | bb =>
   simp only [At] at ht; subst ht; cases rv
   cases u with
   | bb =>
     simp only [At] at hw; subst hw; cases rw'
     simp only [eqT]
     exact SeqAt.RcNeAt.none_none
   | bl c =>
     simp only [At] at hw; subst hw; cases rw'
     simp only [eqT]
     exact SeqAt.RcNeAt.none_bool c
   | int c =>
     simp only [At] at hw; subst hw; obtain ⟨t2,rfl⟩:=rw'
     simp only [eqT]
     exact SeqAt.RcNeAt.none_int c t2
   | str c =>
     simp only [At] at hw; subst hw; obtain ⟨t2,rfl⟩:=rw'
     simp only [eqT]
     exact SeqAt.RcNeAt.none_str c t2
   | tup l=>simp only [At] at hw; obtain ⟨p,ws,rfl,q,_⟩:=hw; cases rw'; obtain ⟨_,_,p1,_⟩:=I.tuple q; simp only [eqT]; exact SeqAt.RcNeAt.none_tuple p1 cF
   | lst l=>simp only [At] at hw; obtain ⟨p,ws,rfl,q,_⟩:=hw; cases rw'; obtain ⟨_,_,p1,_⟩:=I.list q.sq; simp only [eqT]; exact SeqAt.RcNeAt.none_list p1.isList cF
   | _=>simp only [plainT] at pu; cases pu
 | bl d =>
   simp only [At] at ht; subst ht; cases rv
   cases u with
   | bb =>
     simp only [At] at hw; subst hw; cases rw'
     simp only [eqT]
     exact SeqAt.RcNeAt.bool_none d
   | bl c =>
     simp only [At] at hw; subst hw; cases rw'
     simp only [eqT]
     exact SeqAt.RcNeAt.bool_bool d c
   | int c =>
     simp only [At] at hw; subst hw; obtain ⟨t2,rfl⟩:=rw'
     simp only [eqT]
     exact SeqAt.RcNeAt.bool_int d c t2
   | str c =>
     simp only [At] at hw; subst hw; obtain ⟨t2,rfl⟩:=rw'
     simp only [eqT]
     exact SeqAt.RcNeAt.bool_str d c t2
   | tup l=>simp only [At] at hw; obtain ⟨p,ws,rfl,q,_⟩:=hw; cases rw'; obtain ⟨_,_,p1,_⟩:=I.tuple q; simp only [eqT]; exact SeqAt.RcNeAt.bool_tuple d p1 cF
   | lst l=>simp only [At] at hw; obtain ⟨p,ws,rfl,q,_⟩:=hw; cases rw'; obtain ⟨_,_,p1,_⟩:=I.list q.sq; simp only [eqT]; exact SeqAt.RcNeAt.bool_list d p1.isList cF
   | _=>simp only [plainT] at pu; cases pu
 | int d =>
   simp only [At] at ht; subst ht; obtain ⟨t1,rfl⟩:=rv
   cases u with
   | bb =>
     simp only [At] at hw; subst hw; cases rw'
     simp only [eqT]
     exact SeqAt.RcNeAt.int_none d t1
   | bl c =>
     simp only [At] at hw; subst hw; cases rw'
     simp only [eqT]
     exact SeqAt.RcNeAt.int_bool d t1 c
   | int c =>
     simp only [At] at hw; subst hw; obtain ⟨t2,rfl⟩:=rw'
     simp only [eqT]
     exact SeqAt.RcNeAt.int_int d t1 c t2
   | str c =>
     simp only [At] at hw; subst hw; obtain ⟨t2,rfl⟩:=rw'
     simp only [eqT]
     exact SeqAt.RcNeAt.int_str d t1 c t2
   | tup l=>simp only [At] at hw; obtain ⟨p,ws,rfl,q,_⟩:=hw; cases rw'; obtain ⟨_,_,p1,_⟩:=I.tuple q; simp only [eqT]; exact SeqAt.RcNeAt.int_tuple d t1 p1 cF
   | lst l=>simp only [At] at hw; obtain ⟨p,ws,rfl,q,_⟩:=hw; cases rw'; obtain ⟨_,_,p1,_⟩:=I.list q.sq; simp only [eqT]; exact SeqAt.RcNeAt.int_list d t1 p1.isList cF
   | _=>simp only [plainT] at pu; cases pu
 | str d =>
   simp only [At] at ht; subst ht; obtain ⟨t1,rfl⟩:=rv
   cases u with
   | bb =>
     simp only [At] at hw; subst hw; cases rw'
     simp only [eqT]
     exact SeqAt.RcNeAt.str_none d t1
   | bl c =>
     simp only [At] at hw; subst hw; cases rw'
     simp only [eqT]
     exact SeqAt.RcNeAt.str_bool d t1 c
   | int c =>
     simp only [At] at hw; subst hw; obtain ⟨t2,rfl⟩:=rw'
     simp only [eqT]
     exact SeqAt.RcNeAt.str_int d t1 c t2
   | str c =>
     simp only [At] at hw; subst hw; obtain ⟨t2,rfl⟩:=rw'
     simp only [eqT]
     exact SeqAt.RcNeAt.str_str d t1 c t2
   | tup l=>simp only [At] at hw; obtain ⟨p,ws,rfl,q,_⟩:=hw; cases rw'; obtain ⟨_,_,p1,_⟩:=I.tuple q; simp only [eqT]; exact SeqAt.RcNeAt.str_tuple d t1 p1 cF
   | lst l=>simp only [At] at hw; obtain ⟨p,ws,rfl,q,_⟩:=hw; cases rw'; obtain ⟨_,_,p1,_⟩:=I.list q.sq; simp only [eqT]; exact SeqAt.RcNeAt.str_list d t1 p1.isList cF
   | _=>simp only [plainT] at pu; cases pu
 | tup l =>
   simp only [plainT] at pt
   simp only [dep] at hd
   simp only [At] at ht
   obtain ⟨p,vs,rfl,h1,h2⟩:=ht
   cases rv
   obtain ⟨aP,r1,p1,_⟩:=I.tuple h1
   cases u with
   | bb =>
     simp only [At] at hw; subst hw; cases rw'
     simp only [eqT]
     exact SeqAt.RcNeAt.tuple_none p1 cF
   | bl c =>
     simp only [At] at hw; subst hw; cases rw'
     simp only [eqT]
     exact SeqAt.RcNeAt.tuple_bool c p1 cF
   | int c =>
     simp only [At] at hw; subst hw; obtain ⟨t2,rfl⟩:=rw'
     simp only [eqT]
     exact SeqAt.RcNeAt.tuple_int c t2 p1 cF
   | str c =>
     simp only [At] at hw; subst hw; obtain ⟨t2,rfl⟩:=rw'
     simp only [eqT]
     exact SeqAt.RcNeAt.tuple_str c t2 p1 cF
   | tup l' =>
     simp only [At] at hw
     obtain ⟨p',ws,rfl,g1,g2⟩:=hw
     cases rw'
     obtain ⟨dF,r2,p2,_⟩:=I.tuple g1
     simp only [eqT]
     simp only [plainT] at pu
     have e1:=r1.length
     have e2:=r2.length
     have e3:=h2.length
     have e4:=g2.length
     have:=SeqAt.RcNeAt.tuples (A:=A) p1 p2 cF (hV I h2 g2 r1 r2 fun j x y v w u u' e1 e2 a1 a2 b1 b2=>sP I 100 x y v w u u' A.in1 (nI (iG e1) (by omega)) zF (bD pt e1) (bD pu e2) a1 a2 b1 b2)
     simp only [g8] at this
     rw [← e1,← e2,e3,e4] at this
     rw [oJ]
     exact this
   | lst l' =>
     simp only [At] at hw
     obtain ⟨p',ws,rfl,g1,g2⟩:=hw
     cases rw'
     obtain ⟨dF,r2,p2,_⟩:=I.list g1.sq
     simp only [eqT]
     exact SeqAt.RcNeAt.tuple_list p1 p2.isList cF
   | _=>simp only [plainT] at pu; cases pu
 | lst l =>
   simp only [plainT] at pt
   simp only [dep] at hd
   simp only [At] at ht
   obtain ⟨p,vs,rfl,h1,h2⟩:=ht
   cases rv
   obtain ⟨aP,r1,p1,_⟩:=I.list h1.sq
   cases u with
   | bb =>
     simp only [At] at hw; subst hw; cases rw'
     simp only [eqT]
     exact SeqAt.RcNeAt.list_none p1.isList cF
   | bl c =>
     simp only [At] at hw; subst hw; cases rw'
     simp only [eqT]
     exact SeqAt.RcNeAt.list_bool c p1.isList cF
   | int c =>
     simp only [At] at hw; subst hw; obtain ⟨t2,rfl⟩:=rw'
     simp only [eqT]
     exact SeqAt.RcNeAt.list_int c t2 p1.isList cF
   | str c =>
     simp only [At] at hw; subst hw; obtain ⟨t2,rfl⟩:=rw'
     simp only [eqT]
     exact SeqAt.RcNeAt.list_str c t2 p1.isList cF
   | tup l' =>
     simp only [At] at hw
     obtain ⟨p',ws,rfl,g1,g2⟩:=hw
     cases rw'
     obtain ⟨dF,r2,p2,_⟩:=I.tuple g1
     simp only [eqT]
     exact SeqAt.RcNeAt.list_tuple p1.isList p2 cF
   | lst l' =>
     simp only [At] at hw
     obtain ⟨p',ws,rfl,g1,g2⟩:=hw
     cases rw'
     obtain ⟨dF,r2,p2,_⟩:=I.list g1.sq
     simp only [eqT]
     simp only [plainT] at pu
     have e1:=r1.length
     have e2:=r2.length
     have e3:=h2.length
     have e4:=g2.length
     by_cases hl:l.length=l'.length
     · have:=SeqAt.RcNeAt.lists (A:=A) p1.isList p2.isList (by simp only [g8]; omega) cF (hV I h2 g2 r1 r2 fun j x y v w u u' e1 e2 a1 a2 b1 b2=>sP I 100 x y v w u u' A.in1 (nI (iG e1) (by omega)) zF (bD pt e1) (bD pu e2) a1 a2 b1 b2)
       simp only [g8] at this
       rw [← e1,e3] at this
       rw [jn hl]
       exact this
     · have:fW l l'=false:=by
        cases q:fW l l' with
        | false=>rfl
        | true=>exact absurd (jm q) hl
       rw [this]
       exact SeqAt.RcNeAt.lists_lengths p1.isList p2.isList (by simp only [g8]; rw [bne_iff_ne]; omega) cF
   | _=>simp only [plainT] at pu; cases pu
 | _=>simp only [plainT] at pt; cases pt
theorem iy.bare {K:PySem.W.Frag} {H:Hp} {A:List Addr} {t:T} {v:V} (h:iy K H A t v):At K H [] t v:=by
 rcases h with h | ⟨a,rfl,h⟩
 · exact At.bo (O':=[]) (fun _ z=>absurd z fG) h
 · exact (cC.bo (A':=[]) h (fun _ z=>absurd z fG)).at fG
noncomputable def HL (K:PySem.W.Frag) (neg:Bool):R2:=fun x y H Q=>∃ t u,At K H [] t x∧At K H [] u y∧plainT t=true∧plainT u=true∧dep t≤100∧Q (.bl (if neg then !eqT t u else eqT t u)) H
theorem Dt (hu:X.A.units+101 < cLine):eY X (compareOp .Eq) (HL X.K false):=by
 intro pins s σ H x y v u Q I rx ry ⟨t,t',h1,h2,p1,p2,d,q⟩
 exact Mm I t t' x y v u X.A d hu p1 p2 h1 h2 rx ry X.prog X.w X.xe _ ⟨.bl _,H,I,rfl,q⟩
theorem Du (hu:X.A.units+101 < cLine):eY X (compareOp .NotEq) (HL X.K true):=by
 intro pins s σ H x y v u Q I rx ry ⟨t,t',h1,h2,p1,p2,d,q⟩
 exact Mn I t t' x y v u X.A d hu p1 p2 h1 h2 rx ry X.prog X.w X.xe _ ⟨.bl _,H,I,rfl,q⟩
end
noncomputable def Pe (x y:T) (q:Rt→Prop):Prop:=match x,y with
 | .int i,.int j=>q (.vw (.bl (decide (i=j))))
 | .str i,.str j=>q (.vw (.bl (decide (i=j))))
 | .bl i,.bl j=>q (.vw (.bl (decide (i=j))))
 | x,y=>plainT x=true∧plainT y=true∧dep x≤100∧q (.vw (.bl (eqT x y)))
noncomputable def Q2 (x y:T) (q:Rt→Prop):Prop:=match x,y with
 | .int i,.int j=>q (.vw (.bl (!decide (i=j))))
 | .str i,.str j=>q (.vw (.bl (!decide (i=j))))
 | .bl i,.bl j=>q (.vw (.bl (!decide (i=j))))
 | x,y=>plainT x=true∧plainT y=true∧dep x≤100∧q (.vw (.bl (!eqT x y)))
theorem HM {x y:T} {q:Rt→Prop} (h:Pe x y q):plainT x=true∧plainT y=true∧dep x≤100∧q (.vw (.bl (eqT x y))):=by
 unfold Pe at h
 split at h
 · exact ⟨rfl,rfl,qe _,by simp only [eqT,U4]; exact h⟩
 · refine ⟨rfl,rfl,qe _,?_⟩
   have e:∀ i j:Str,(i == j)=decide (i=j):=fun i j=>by rw [G1]; simp
   simp only [eqT,e]; exact h
 · exact ⟨rfl,rfl,qe _,by simp only [eqT,U4]; exact h⟩
 · exact h
theorem HN {x y:T} {q:Rt→Prop} (h:Q2 x y q):plainT x=true∧plainT y=true∧dep x≤100∧q (.vw (.bl (!eqT x y))):=by
 unfold Q2 at h
 split at h
 · exact ⟨rfl,rfl,qe _,by simp only [eqT,U4]; exact h⟩
 · refine ⟨rfl,rfl,qe _,?_⟩
   have e:∀ i j:Str,(i == j)=decide (i=j):=fun i j=>by rw [G1]; simp
   simp only [eqT,e]; exact h
 · exact ⟨rfl,rfl,qe _,by simp only [eqT,U4]; exact h⟩
 · exact h
theorem Dv {K:PySem.W.Frag}:oF K (HL K false) Pe:=by
 intro Z tm O ρ σ H x y v w q Q I h1 h2 h k
 obtain ⟨p1,p2,d,h⟩:=HM h
 exact ⟨x,y,h1.bare,h2.bare,p1,p2,d,k _ h _ H (aX.refl H) ⟨I,by rw [if_neg c7]; exact c_⟩⟩
theorem Dw {K:PySem.W.Frag}:oF K (HL K true) Q2:=by
 intro Z tm O ρ σ H x y v w q Q I h1 h2 h k
 obtain ⟨p1,p2,d,h⟩:=HN h
 exact ⟨x,y,h1.bare,h2.bare,p1,p2,d,k _ h _ H (aX.refl H) ⟨I,by rw [if_pos rfl]; exact c_⟩⟩
noncomputable def Mo (g:Int→Int→Bool) (x y:T) (q:Rt→Prop):Prop:=match x,y with
 | .int i,.int j=>q (.vw (.bl (g i j)))
 | _,_=>False
section
variable {K:PySem.W.Frag}
end
noncomputable def Mp (x y:T) (q:Rt→Prop):Prop:=match x,y with
 | .int i,.int j=>q (.vw (.int (i - j)))
 | _,_=>False
theorem HP {K:PySem.W.Frag}:oF K (sF fun i j=>.int (i - j)) Mp:=by
 intro Z tm O ρ σ H x y v w q Q I h1 h2 h k
 unfold Mp at h
 split at h
 · exact ⟨_,_,h1.int,h2.int,k _ h _ H (aX.refl H) ⟨I,bG⟩⟩
 · exact h.elim
noncomputable def Mq (x y:T) (q:Rt→Prop):Prop:=match x,y with
 | .int i,.int j=>CY i j∧q (.vw (.int (i * j)))
 | _,_=>False
theorem HQ {K:PySem.W.Frag}:oF K (rI CY fun i j=>.int (i * j)) Mq:=by
 intro Z tm O ρ σ H x y v w q Q I h1 h2 h k
 unfold Mq at h
 split at h
 · exact ⟨_,_,h1.int,h2.int,h.1,k _ h.2 _ H (aX.refl H) ⟨I,bG⟩⟩
 · exact h.elim
noncomputable def Mr (x y:T) (q:Rt→Prop):Prop:=match x,y with
 | .int i,.int j=>(0 < j∧j < 1073741824)∧q (.vw (.int (i / j)))
 | _,_=>False
theorem HR {K:PySem.W.Frag}:oF K (rI Qm fun i j=>.int (i / j)) Mr:=by
 intro Z tm O ρ σ H x y v w q Q I h1 h2 h k
 unfold Mr at h
 split at h
 · exact ⟨_,_,h1.int,h2.int,h.1,k _ h.2 _ H (aX.refl H) ⟨I,bG⟩⟩
 · exact h.elim
noncomputable def Ms (x y:T) (q:Rt→Prop):Prop:=match x,y with
 | .int i,.int j=>0 < j∧q (.vw (.int (i % j)))
 | _,_=>False
theorem HS {K:PySem.W.Frag}:oF K (rI (fun _ j=>0 < j) fun i j=>.int (i % j)) Ms:=by
 intro Z tm O ρ σ H x y v w q Q I h1 h2 h k
 unfold Ms at h
 split at h
 · exact ⟨_,_,h1.int,h2.int,h.1,k _ h.2 _ H (aX.refl H) ⟨I,bG⟩⟩
 · exact h.elim
noncomputable def Mt (x y:T) (q:Rt→Prop):Prop:=match x,y with
 | .int i,.int j=>(0≤j∧j≤1000000∧i.natAbs < 2 ^ 64)∧q (.vw (.int (i ^ j.toNat)))
 | _,_=>False
theorem HU {K:PySem.W.Frag}:oF K (rI Hf fun i j=>.int (i ^ j.toNat)) Mt:=by
 intro Z tm O ρ σ H x y v w q Q I h1 h2 h k
 unfold Mt at h
 split at h
 · exact ⟨_,_,h1.int,h2.int,h.1,k _ h.2 _ H (aX.refl H) ⟨I,bG⟩⟩
 · exact h.elim
noncomputable def Mu (x y:T) (q:Rt→Prop):Prop:=match x,y with
 | .int i,.int j=>(0≤j∧j≤1000000∧i.natAbs < 2 ^ 64)∧q (.vw (.int (i * 2 ^ j.toNat)))
 | _,_=>False
theorem HV {K:PySem.W.Frag}:oF K (rI Hf fun i j=>.int (i * 2 ^ j.toNat)) Mu:=by
 intro Z tm O ρ σ H x y v w q Q I h1 h2 h k
 unfold Mu at h
 split at h
 · exact ⟨_,_,h1.int,h2.int,h.1,k _ h.2 _ H (aX.refl H) ⟨I,bG⟩⟩
 · exact h.elim
noncomputable def Mv (x y:T) (q:Rt→Prop):Prop:=match x,y with
 | .int i,.int j=>0≤j∧q (.vw (.int (i / 2 ^ j.toNat)))
 | _,_=>False
theorem HW {K:PySem.W.Frag}:oF K (rI (fun _ j=>0≤j) fun i j=>.int (i / 2 ^ j.toNat)) Mv:=by
 intro Z tm O ρ σ H x y v w q Q I h1 h2 h k
 unfold Mv at h
 split at h
 · exact ⟨_,_,h1.int,h2.int,h.1,k _ h.2 _ H (aX.refl H) ⟨I,bG⟩⟩
 · exact h.elim
noncomputable def Dx (x y:T) (q:Rt→Prop):Prop:=match x,y with
 | .int i,.int j=>q (.vw (.int (Builtin.bitAnd i j)))
 | _,_=>False
theorem Dy {K:PySem.W.Frag}:oF K (sF fun i j=>.int (Builtin.bitAnd i j)) Dx:=by
 intro Z tm O ρ σ H x y v w q Q I h1 h2 h k
 unfold Dx at h
 split at h
 · exact ⟨_,_,h1.int,h2.int,k _ h _ H (aX.refl H) ⟨I,bG⟩⟩
 · exact h.elim
noncomputable def Xr (x y:T) (q:Rt→Prop):Prop:=match x,y with
 | .int i,.int j=>q (.vw (.bl (decide (i < j))))
 | _,_=>False
theorem Mw {K:PySem.W.Frag}:oF K (sF fun i j=>.bl (decide (i < j))) Xr:=by
 intro Z tm O ρ σ H x y v w q Q I h1 h2 h k
 unfold Xr at h
 split at h
 · exact ⟨_,_,h1.int,h2.int,k _ h _ H (aX.refl H) ⟨I,c_⟩⟩
 · exact h.elim
noncomputable def Xs (x y:T) (q:Rt→Prop):Prop:=match x,y with
 | .int i,.int j=>q (.vw (.bl (decide (j < i))))
 | _,_=>False
theorem Mx {K:PySem.W.Frag}:oF K (sF fun i j=>.bl (decide (j < i))) Xs:=by
 intro Z tm O ρ σ H x y v w q Q I h1 h2 h k
 unfold Xs at h
 split at h
 · exact ⟨_,_,h1.int,h2.int,k _ h _ H (aX.refl H) ⟨I,c_⟩⟩
 · exact h.elim
noncomputable def Kp (K:PySem.W.Frag):R2:=fun x y H Q=>∃ l b xs zs,x = .ref l∧y = .ref b∧gy K H l xs∧gy K H b zs∧xs.length+zs.length≤sizeLine∧∀ p,H p=none→Q (.ref p) (upd H p (.lst (xs ++ zs)))
noncomputable def Kq (K:PySem.W.Frag):R2:=fun x y H Q=>∃ a b xs ys,x = .ref a∧y = .ref b∧dZ K H a xs∧dZ K H b ys∧xs.length+ys.length≤sizeLine∧(xs=[]→Q (.ref b) H)∧(xs≠[]→ys=[]→Q (.ref a) H)∧(xs≠[]→ys≠[]→∀ p,H p=none→Q (.ref p) (upd H p (.tup (xs ++ ys))))
section
variable {X:Cx}
theorem HX:eY X (binaryOp .Add) (Kp X.K):=by
 intro pins s σ H x y v u Q I rx ry h
 obtain ⟨l,b,xs,zs,rfl,rfl,hH,hB,hz,q⟩:=h
 cases rx
 cases ry
 obtain ⟨aP,r,p1,z1⟩:=I.list hH
 obtain ⟨dF,r2,p2,z2⟩:=I.list hB
 obtain ⟨⟨cls,dd,data,sl⟩,n,ho,hc,_,hd⟩:=p1
 obtain ⟨⟨Qy,O_,data2,Pa⟩,n2,Cy,Cz,_,hd2⟩:=p2
 simp only at hc hd Cz hd2
 subst hc hd Cz hd2
 have l1:=r.length
 have l2:=r2.length
 have e:aP.toArray ++ dF.toArray=(aP ++ dF).toArray:=by simp
 refine concat_meets ⟨_,ho,rfl⟩ ⟨_,Cy,rfl⟩ noFill_list_add seq_list_add PySem.F.slot_list_add PySem.F.entry_list_add (PySem.F.args_list_add_2 _ _) (list_addW l b aP.toArray dF.toArray n n2 dd O_ sl Pa (by simp only [g8]; omega)) ⟨ho,Cy,?_⟩
 rw [e]
 exact ⟨.ref _,_,I.QI (t':=s.toks) (r.append r2) (by rw [qd]; omega),rfl,q _ I.fresh⟩
theorem HY:eY X (binaryOp .Add) (Kq X.K):=by
 intro pins s σ H x y v u Q I rx ry h
 obtain ⟨a,b,xs,ys,rfl,rfl,ha,hb,hz,q0,q1,q2⟩:=h
 cases rx
 cases ry
 obtain ⟨aP,r1,p1,_⟩:=I.tuple ha
 obtain ⟨dF,r2,p2,_⟩:=I.tuple hb
 by_cases hx:xs=[]
 · obtain ⟨⟨cls,dd,data,sl⟩,ho,hc,n,hd⟩:=id p1
   obtain ⟨⟨Qy,O_,data2,Pa⟩,Cy,Cz,n2,hd2⟩:=id p2
   simp only at hc hd Cz hd2
   subst hc hd Cz hd2
   exact concat_meets ⟨_,ho,rfl⟩ ⟨_,Cy,rfl⟩ noFill_tuple_add seq_tuple_add Wd V' (V_ _ _)
    (tuple_addW0 a b aP.toArray dF.toArray n n2 dd O_ sl Pa (by simp [r1.n4.mpr hx])) ⟨ho,Cy,⟨.ref b,H,I,rfl,q0 hx⟩⟩
 · refine HT.Hr p1 p2 (fun z=>hx (r1.n4.mp z)) (fun z=>⟨.ref a,H,I,rfl,q1 hx (r2.n4.mp z)⟩) (fun z=>?_) (by rw [← r1.length,← r2.length]; exact hz)
   refine ⟨.ref s.heap.objs.size,_,I.laid (t':=s.toks) (o:=.tup (xs ++ ys)) (fun b ob q=>fF _ q) (cA _) ?_,rfl,q2 hx (fun w=>z (r2.n4.mpr w)) _ (I.bV.fresh (cA _))⟩
   exact ⟨by rw [qd]; exact hz,_,r1.append r2,IsTup.new _ _⟩
end
noncomputable def Kr (K:PySem.W.Frag):R2:=fun x y H Q=>sF (fun i j=>.int (i+j)) x y H Q∨(fun x y H Q=>∃ i j,x = .str i∧y = .str j∧i.length+j.length≤sizeLine∧Q (.str (i ++ j)) H) x y H Q∨Kp K x y H Q∨Kq K x y H Q
theorem HZ {X:Cx}:eY X (binaryOp .Add) (Kr X.K):=eY.or LP (eY.or xU (eY.or HX HY))
noncomputable def My (x y:T) (q:Rt→Prop):Prop:=match x,y with
 | .int i,.int j=>q (.vw (.int (i+j)))
 | .str i,.str j=>i.length+j.length≤sizeLine∧q (.vw (.str (i ++ j)))
 | .lst a,.lst b=>a.length+b.length≤sizeLine∧q (.fr (.lst (a ++ b)))
 | .tup a,.tup b=>a.length+b.length≤sizeLine∧q (.vw (.tup (a ++ b)))
 | _,_=>False
theorem H_ {K:PySem.W.Frag}:oF K (Kr K) My:=by
 intro Z tm O ρ σ H x y v w q Q I h1 h2 h k
 unfold My at h
 split at h
 · exact .inl ⟨_,_,h1.int,h2.int,k _ h _ H (aX.refl H) ⟨I,bG⟩⟩
 · exact .inr (.inl ⟨_,_,h1.str,h2.str,h.1,k _ h.2 _ H (aX.refl H) ⟨I,bJ⟩⟩)
 · obtain ⟨a,vs,rfl,s1,a1⟩:=h1.lst
   obtain ⟨b,ws,rfl,s2,a2⟩:=h2.lst
   exact .inr (.inr (.inl ⟨a,b,vs,ws,rfl,rfl,s1,s2,by rw [a1.length,a2.length]; exact h.1,fun p hp=>k _ h.2 _ _ (aU hp) (I.A0 hp (a1.append a2))⟩))
 · obtain ⟨a,vs,rfl,s1,a1⟩:=h1.tup
   obtain ⟨b,ws,rfl,s2,a2⟩:=h2.tup
   refine .inr (.inr (.inr ⟨a,b,vs,ws,rfl,rfl,s1,s2,by rw [a1.length,a2.length]; exact h.1,fun e=>?_,fun _ e=>?_,fun _ _ p hp=>?_⟩))
   · subst e
     have e:=a1.length
     rename_i xs ys
     have e':xs=[]:=Cn.mp e.symm
     subst e'
     exact k _ h.2 _ H (aX.refl H) ⟨I,bu s2 a2⟩
   · subst e
     have e:=a2.length
     rename_i xs ys _
     have e':ys=[]:=Cn.mp e.symm
     subst e'
     exact k _ h.2 _ H (aX.refl H) ⟨I,by rw [xw]; exact bu s1 a1⟩
   · exact k _ h.2 _ _ (aU hp) ⟨I.same (aU hp),bu (dZ.of a_) ((a1.append a2).same (aU hp))⟩
 · exact h.elim
section
variable {X:Cx} {Z:Zc} {e a b:Expr} {es:List Expr} {pos:Pos} {fa fb:FE}
theorem cj (ha:VR X Z a fa) (hb:VR X Z b fb):VP X Z (.BinOp a .Add b pos) (f2 fa fb My):=iE HZ H_ ha hb
theorem yd (ha:VR X Z a fa) (hb:VR X Z b fb):VP X Z (.BinOp a .Sub b pos) (f2 fa fb Mp):=iE LQ HP ha hb
theorem iH (ha:VR X Z a fa) (hb:VR X Z b fb):VP X Z (.BinOp a .Mult b pos) (f2 fa fb Mq):=iE LR HQ ha hb
theorem aZ (ha:VR X Z a fa) (hb:VR X Z b fb):VP X Z (.BinOp a .FloorDiv b pos) (f2 fa fb Mr):=iE Hg HR ha hb
theorem a8 (ha:VR X Z a fa) (hb:VR X Z b fb):VP X Z (.BinOp a .Mod b pos) (f2 fa fb Ms):=iE LS HS ha hb
theorem ke (ha:VR X Z a fa) (hb:VR X Z b fb):VP X Z (.BinOp a .Pow b pos) (f2 fa fb Mt):=iE LU HU ha hb
theorem ye (ha:VR X Z a fa) (hb:VR X Z b fb):VP X Z (.BinOp a .LShift b pos) (f2 fa fb Mu):=iE LV HV ha hb
theorem Dz (ha:VR X Z a fa) (hb:VR X Z b fb):VP X Z (.BinOp a .RShift b pos) (f2 fa fb Mv):=iE LW HW ha hb
theorem Ia (ha:VR X Z a fa) (hb:VR X Z b fb):VP X Z (.BinOp a .BitAnd b pos) (f2 fa fb Dx):=iE LX Dy ha hb
noncomputable def Xu (f:FE):FP:=fun ρ Q=>f ρ fun x=>match x with
 | .int i=>Q (.vw (.int (-i)))
 | _=>False
theorem gW (ha:VR X Z a fa):VP X Z (.UnaryOp .USub a pos) (Xu fa):=.mk fun tm=>PE.weak (Ql LY (ha tm)) fun σ H Q ⟨ρ,O,q,I,hf,k⟩=>⟨ρ,O,_,I,hf,fun t ht v H1 s1 a1=>by
 split at ht
 · exact ⟨_,a1.int,k _ ht _ H1 s1 ⟨I.same s1,bG⟩⟩
 · exact ht.elim⟩
theorem kO (hu:X.A.units+101 < cLine) (ha:VR X Z a fa) (hb:VR X Z b fb):VP X Z (.Compare a [.Eq] [b] pos) (f2 fa fb Pe):=sO (Dt hu) Dv ha hb (j_ _)
theorem DA (hu:X.A.units+101 < cLine) (ha:VR X Z a fa) (hb:VR X Z b fb):VP X Z (.Compare a [.NotEq] [b] pos) (f2 fa fb Q2):=sO (Du hu) Dw ha hb (j_ _)
theorem bB (hu:X.A.units+101 < cLine) (ha:VR X Z a fa) (hb:VR X Z b fb):VC X Z (.Compare a [.Eq] [b] pos) (qv (f2 fa fb Pe)):=kb (Dt hu) Dv ha hb (j_ _)
theorem i4 (hu:X.A.units+101 < cLine) (ha:VR X Z a fa) (hb:VR X Z b fb):VC X Z (.Compare a [.NotEq] [b] pos) (qv (f2 fa fb Q2)):=kb (Du hu) Dw ha hb (j_ _)
theorem rH (ha:VR X Z a fa) (hb:VR X Z b fb):VC X Z (.Compare a [.Lt] [b] pos) (qv (f2 fa fb Xr)):=kb Kk Mw ha hb (j_ _)
theorem vj (ha:VR X Z a fa) (hb:VR X Z b fb):VC X Z (.Compare a [.Gt] [b] pos) (qv (f2 fa fb Xs)):=kb Qn Mx ha hb (j_ _)
noncomputable def f3 (fa fb fc:FE) (p p':T→T→(Rt→Prop)→Prop):FP:=fun ρ Q=>fa ρ fun x=>fb ρ fun y=>p x y fun r=>match r with
 | .vw (.bl true)=>fc ρ fun z=>p' y z Q
 | .vw (.bl false)=>Q (.vw (.bl false))
 | _=>False
end
theorem DB {K:PySem.W.Frag} {H:Hp} {A:List Addr} {ts:List T} {vs:List V} {i:Int} {t:T} (h:aA K H A ts vs) (e:jH ts i=some t):∃ v,jH vs i=some v∧At K H A t v:=by
 unfold jH at e ⊢
 rw [h.length]
 cases q:qk ts.length i with
 | none=>rw [q] at e; cases e
 | some j =>
   rw [q] at e
   obtain ⟨v,h1,h2⟩:=h.get (i:=j) e
   exact ⟨v,h1,h2⟩
noncomputable def Xv (x y:T) (q:Rt→Prop):Prop:=match x,y with
 | .lst ts,.int i=>∃ t,jH ts i=some t∧q (.vw t)
 | .tup ts,.int i=>∃ t,jH ts i=some t∧q (.vw t)
 | .str z,.int i=>z.length≤sizeLine∧∃ c,jH z.cps.toList i=some c∧q (.vw (.str ⟨#[c]⟩))
 | _,_=>False
theorem Mz {K:PySem.W.Frag}:oF K (ZU K) Xv:=by
 intro Z tm O ρ σ H x y v w q Q I h1 h2 h k
 unfold Xv at h
 split at h
 · obtain ⟨t,e,h⟩:=h
   obtain ⟨a,vs,rfl,s1,a1⟩:=h1.lst
   obtain ⟨u,e',a2⟩:=DB a1 e
   exact .inl ⟨a,vs,_,u,rfl,h2.int,s1,e',k _ h _ H (aX.refl H) ⟨I,a2⟩⟩
 · obtain ⟨t,e,h⟩:=h
   obtain ⟨a,vs,rfl,s1,a1⟩:=h1.tup
   obtain ⟨u,e',a2⟩:=DB a1 e
   exact .inr (.inl ⟨a,vs,_,u,rfl,h2.int,s1,e',k _ h _ H (aX.refl H) ⟨I,a2⟩⟩)
 · obtain ⟨hz,c,e,h⟩:=h
   exact .inr (.inr ⟨_,_,c,h1.str,h2.int,hz,e,k _ h _ H (aX.refl H) ⟨I,bJ⟩⟩)
 · exact h.elim
section
variable {X:Cx} {Z:Zc} {e a b:Expr} {es:List Expr} {pos:Pos} {fa fb:FE}
theorem aS (ha:VR X Z a fa) (hb:VR X Z b fb) (hs:zA b:=by exact fun _ _=>rfl):VP X Z (.Subscript a b pos) (f2 fa fb Xv) :=
 .mk fun tm=>PE.weak (QC L_ (ha tm) (hb tm) hs) (two Mz)
end
noncomputable abbrev FO:=En→(Option Int→Prop)→Prop
noncomputable def lO (X:Cx) (Z:Zc) (tm:List (T×V)) (f:FO):TO:=fun σ H Q=>∃ ρ O q,aw X.K Z tm O ρ σ H∧f ρ q∧∀ o,q o→∀ H',aX H H'→Q o H'
noncomputable def VO (X:Cx) (Z:Zc) (e:Option Expr) (f:FO):Prop:=Bx fun tm=>PO X e (lO X Z tm f)
noncomputable instance {X:Cx} {Z:Zc} {e:Option Expr} {f:FO}:CoeFun (VO X Z e f) fun _=>∀ tm,PO X e (lO X Z tm f):=⟨fun h=>Bx.h h⟩
theorem PO.weak {X:Cx} {e:Option Expr} {t t':TO} (h:PO X e t) (hw:∀ σ H Q,t' σ H Q→t σ H Q):PO X e t':=fun pins s σ H Q I q=>h pins s σ H Q I (hw _ _ _ q)
noncomputable def fO0:FO:=fun _ Q=>Q none
noncomputable def fO1 (f:FE):FO:=fun ρ Q=>f ρ fun t=>match t with
 | .int i=>Q (some i)
 | _=>False
noncomputable def gA {α:Type} (xs:List α) (lo hi:Option Int):List α:=(xs.drop (HT.dA xs.length 0 lo)).take (HT.dA xs.length xs.length hi - HT.dA xs.length 0 lo)
theorem aA.cut {K:PySem.W.Frag} {H:Hp} {A:List Addr} {ts:List T} {vs:List V} (h:aA K H A ts vs) (lo hi:Option Int):aA K H A (gA ts lo hi) (u5 vs lo hi):=by
 unfold gA u5
 rw [h.length]
 exact (h.drop _).take _
noncomputable def Xw (K:PySem.W.Frag):V→Option Int→Option Int→Hp→VK→Prop:=fun x lo hi H Q=>QH K x lo hi H Q∨QB K x lo hi H Q∨QX x lo hi H Q
theorem Xx {X:Cx}:C7 X (Xw X.K):=C7.or Hy (C7.or L7 Mj)
noncomputable def Z0 (x:T) (lo hi:Option Int) (q:Rt→Prop):Prop:=match x with
 | .lst ts=>q (.fr (.lst (gA ts lo hi)))
 | .tup ts=>¬ (HT.dA ts.length 0 lo=0∧HT.dA ts.length ts.length hi=ts.length)∧q (.vw (.tup (gA ts lo hi)))
 | .str z=>z.length≤sizeLine∧q (.vw (.str (Txt.slice z lo hi)))
 | _=>False
noncomputable def fSl (fa:FE) (fl fh:FO):FP:=fun ρ Q=>fa ρ fun x=>fl ρ fun lo=>fh ρ fun hi=>Z0 x lo hi Q
section
variable {X:Cx} {Z:Zc} {e a b:Expr} {lo hi:Option Expr} {pos p2:Pos} {fa:FE} {fl fh:FO}
theorem kP:VO X Z none fO0:=.mk fun tm=>PO.weak Ht fun σ H Q ⟨ρ,O,q,I,hf,k⟩=>k _ hf H (aX.refl H)
theorem fH (h:VR X Z e fa):VO X Z (some e) (fO1 fa):=.mk fun tm=>PO.weak (Hu (h tm)) fun σ H Q ⟨ρ,O,q,I,hf,k⟩=>⟨ρ,O,_,I,hf,fun t ht v H' s z=>by
 split at ht
 · exact ⟨_,z.int,k _ ht H' s⟩
 · exact ht.elim⟩
theorem fY (he:VR X Z e fa) (hl:VO X Z lo fl) (hh:VO X Z hi fh):VP X Z (.Subscript e (.Slice lo hi none p2) pos) (fSl fa fl fh) :=
 .mk fun tm=>PE.weak (C8 Xx (he tm) (hl tm) (hh tm)) fun σ H Q ⟨ρ,O,q,I,hf,k⟩=>⟨ρ,O,_,I,hf,fun x hx v H1 s1 a1=>⟨ρ,O,_,I.same s1,hx,fun l hl H2 s2=>⟨ρ,O,_,(I.same s1).same s2,hl,fun u hu H3 s3=>by
  have J:=((I.same s1).same s2).same s3
  have a3:=(a1.same s2).same s3
  have S:=(s1.trans s2).trans s3
  unfold Z0 at hu
  split at hu
  · obtain ⟨p,vs,rfl,q1,q2⟩:=a3.lst
    exact .inl ⟨p,vs,rfl,q1,fun r hr=>k _ hu _ _ (S.trans (aU hr)) (J.A0 hr (q2.cut _ _))⟩
  · obtain ⟨p,vs,rfl,q1,q2⟩:=a3.tup
    refine .inr (.inl ⟨p,vs,rfl,q1,by rw [q2.length]; exact hu.1,fun r hr=>k _ hu.2 _ _ (S.trans (aU hr)) ⟨J.same (aU hr),bu (dZ.of a_) ((q2.cut _ _).same (aU hr))⟩⟩)
  · exact .inr (.inr ⟨_,a3.str,hu.1,k _ hu.2 _ H3 S ⟨J,bJ⟩⟩)
  · exact hu.elim⟩⟩⟩
end
noncomputable def Ks (g:FA) (p:List T→(Rt→Prop)→Prop):FP:=fun ρ Q=>g ρ fun ts=>p ts Q
noncomputable def m7 (K:PySem.W.Frag) (r:List V→Hp→VK→Prop) (p:List T→(Rt→Prop)→Prop):Prop :=
 ∀ (Z:Zc) (tm:List (T×V)) (O:List (Option Addr)) (ρ:En) (σ:St) (H:Hp) (ts:List T) (vs:List V) (q:Rt→Prop) (Q:VK),aw K Z tm O ρ σ H→Paired (fun v t=>iy K H (av Z O) t v) vs ts→p ts q →
  (∀ t,q t→∀ u H',aX H H'→gU K Z tm O ρ σ H' t u→Q u H')→r vs H Q
section
variable {X:Cx} {Z:Zc} {e a b:Expr} {es:List Expr} {pos p:Pos} {g:FA} {x:Str} {id Ty:String} {r:List V→Hp→VK→Prop} {pp:List T→(Rt→Prop)→Prop}
theorem aG (hc:c8 X (.builtin id) r) (ht:m7 X.K r pp) (hg:Gl X x) (hm:X.mg x=none) (hv:bootBuiltins x=some (.builtin id)) (ha:HK X Z (e :: es) g) (hn:x≠"__name__":=by decide) (qj:(x == ("__debug__" : Str))=false:=by decide)
  (hs:starEach (e :: es) X.env=(false,eval e X.env) :: starEach es X.env:=by rfl) (jg:(backTo pos (starEach es X.env)).any (·.1)=false:=by rfl):VP X Z (.Call (.Name x p) (e :: es) [] pos) (Ks g pp) :=
 .mk fun tm=>PE.weak (kJ hc hg hm hv (ha tm) hn qj hs jg) fun σ H Q ⟨ρ,O,q,I,hf,k⟩=>⟨ρ,O,_,I,hf,fun ts fj vs H1 s1 a1=>ht Z tm O ρ σ H1 ts vs q _ (I.same s1) a1 fj fun t h u H' s z=>k t h u H' (s1.trans s) z⟩
theorem hW (hc:c8 X (.type Ty) r) (ht:m7 X.K r pp) (hg:Gl X x) (hm:X.mg x=none) (hv:bootBuiltins x=some (.type Ty)) (ha:HK X Z (e :: es) g) (hn:x≠"__name__":=by decide) (qj:(x == ("__debug__" : Str))=false:=by decide)
  (hs:starEach (e :: es) X.env=(false,eval e X.env) :: starEach es X.env:=by rfl) (jg:(backTo pos (starEach es X.env)).any (·.1)=false:=by rfl):VP X Z (.Call (.Name x p) (e :: es) [] pos) (Ks g pp) :=
 .mk fun tm=>PE.weak (rB hc hg hm hv (ha tm) hn qj hs jg) fun σ H Q ⟨ρ,O,q,I,hf,k⟩=>⟨ρ,O,_,I,hf,fun ts fj vs H1 s1 a1=>ht Z tm O ρ σ H1 ts vs q _ (I.same s1) a1 fj fun t h u H' s z=>k t h u H' (s1.trans s) z⟩
end
noncomputable def Q3 (ts:List T) (q:Rt→Prop):Prop:=match ts with
 | [.lst l]=>q (.vw (.int l.length))
 | [.tup l]=>q (.vw (.int l.length))
 | [.str z]=>z.length≤sizeLine∧q (.vw (.int z.length))
 | _=>False
noncomputable def Kt (K:PySem.W.Frag):List V→Hp→VK→Prop:=fun xs H Q=>(∃ p ys,xs=[.ref p]∧(gy K H p ys∨dZ K H p ys)∧Q (.int ys.length) H)∨(∃ z,xs=[.str z]∧z.length≤sizeLine∧Q (.int z.length) H)
theorem aI {X:Cx}:c8 X (.builtin "len") (Kt X.K):=c8.or sL sM
theorem cx {α β:Type} {F:α→β→Prop} {vs:List α} {t:β} (h:Paired F vs [t]):∃ v,vs=[v]∧F v t:=by
 cases h with
 | cons r q=>cases q; exact ⟨_,rfl,r⟩
theorem Ib {α β:Type} {F:α→β→Prop} {vs:List α} {t u:β} (h:Paired F vs [t,u]):∃ v w,vs=[v,w]∧F v t∧F w u:=by
 cases h with
 | cons r q=>cases q with
   | cons r2 q2=>cases q2; exact ⟨_,_,rfl,r,r2⟩
theorem aJ {K:PySem.W.Frag}:m7 K (Kt K) Q3:=by
 intro Z tm O ρ σ H ts vs q Q I h hp k
 unfold Q3 at hp
 split at hp
 · obtain ⟨v,rfl,a⟩:=cx h
   obtain ⟨p,ws,rfl,q1,q2⟩:=a.lst
   exact .inl ⟨p,ws,rfl,.inl q1,k _ hp _ H (aX.refl H) ⟨I,by rw [q2.length]; exact bG⟩⟩
 · obtain ⟨v,rfl,a⟩:=cx h
   obtain ⟨p,ws,rfl,q1,q2⟩:=a.tup
   exact .inl ⟨p,ws,rfl,.inr q1,k _ hp _ H (aX.refl H) ⟨I,by rw [q2.length]; exact bG⟩⟩
 · obtain ⟨v,rfl,a⟩:=cx h
   exact .inr ⟨_,by rw [a.str],hp.1,k _ hp.2 _ H (aX.refl H) ⟨I,bG⟩⟩
 · exact hp.elim
noncomputable def Ku (ts:List T) (q:Rt→Prop):Prop:=match ts with
 | [.lst l]=>q (.fr (.lst l))
 | [.tup l]=>q (.fr (.lst l))
 | _=>False
theorem kf {K:PySem.W.Frag}:m7 K (fun xs H Q=>∃ p ys,xs=[.ref p]∧(gy K H p ys∨dZ K H p ys)∧∀ l,H l=none→Q (.ref l) (upd H l (.lst ys))) Ku:=by
 intro Z tm O ρ σ H ts vs q Q I h hp k
 unfold Ku at hp
 split at hp
 · obtain ⟨v,rfl,a⟩:=cx h
   obtain ⟨p,ws,rfl,q1,q2⟩:=a.lst
   exact ⟨p,ws,rfl,.inl q1,fun l hl=>k _ hp _ _ (aU hl) (I.A0 hl q2)⟩
 · obtain ⟨v,rfl,a⟩:=cx h
   obtain ⟨p,ws,rfl,q1,q2⟩:=a.tup
   exact ⟨p,ws,rfl,.inr q1,fun l hl=>k _ hp _ _ (aU hl) (I.A0 hl q2)⟩
 · exact hp.elim
noncomputable def DC (ts:List T) (q:Rt→Prop):Prop:=match ts with
 | [.lst l]=>q (.vw (.tup l))
 | [.tup l]=>q (.vw (.tup l))
 | _=>False
theorem m8 {K:PySem.W.Frag}:m7 K (fun xs H Q=>∃ p ys,xs=[.ref p]∧((gy K H p ys∧∀ l,H l=none→Q (.ref l) (upd H l (.tup ys)))∨(dZ K H p ys∧Q (.ref p) H))) DC:=by
 intro Z tm O ρ σ H ts vs q Q I h hp k
 unfold DC at hp
 split at hp
 · obtain ⟨v,rfl,a⟩:=cx h
   obtain ⟨p,ws,rfl,q1,q2⟩:=a.lst
   exact ⟨p,ws,rfl,.inl ⟨q1,fun l hl=>k _ hp _ _ (aU hl) ⟨I.same (aU hl),bu (dZ.of a_) (q2.same (aU hl))⟩⟩⟩
 · obtain ⟨v,rfl,a⟩:=cx h
   obtain ⟨p,ws,rfl,q1,q2⟩:=a.tup
   exact ⟨p,ws,rfl,.inr ⟨q1,k _ hp _ H (aX.refl H) ⟨I,bu q1 q2⟩⟩⟩
 · exact hp.elim
structure GJ where
 nx:En→Prop
 rt:En→Rt→Prop
 bk:En→Prop:=fun _=>False
 ct:En→Prop:=fun _=>False
structure Fin (K:PySem.W.Frag) (Z:Zc) (tm:List (T×V)) (d:GJ) (D:Ends):Prop where
 nx:∀ O ρ σ H,aw K Z tm O ρ σ H→d.nx ρ→D.nx σ H
 rt:∀ O ρ σ H r v,gU K Z tm O ρ σ H r v→d.rt ρ r→D.rt v H
 bk:∀ O ρ σ H,aw K Z tm O ρ σ H→d.bk ρ→D.bk σ H
 ct:∀ O ρ σ H,aw K Z tm O ρ σ H→d.ct ρ→D.ct σ H
noncomputable abbrev FS:=GJ→En→Prop
noncomputable def lS (X:Cx) (Z:Zc) (tm:List (T×V)) (g:FS):TS:=fun D σ H=>∃ ρ O d,aw X.K Z tm O ρ σ H∧g d ρ∧Fin X.K Z tm d D
noncomputable def VS (X:Cx) (Z:Zc) (st:Stmt) (g:FS):Prop:=Bx fun tm=>PS X st (lS X Z tm g)
noncomputable instance {X:Cx} {Z:Zc} {st:Stmt} {g:FS}:CoeFun (VS X Z st g) fun _=>∀ tm,PS X st (lS X Z tm g):=⟨fun h=>Bx.h h⟩
noncomputable def nL (X:Cx) (Z:Zc) (st:List Stmt) (g:FS):Prop:=Bx fun tm=>nY X st (lS X Z tm g)
noncomputable instance {X:Cx} {Z:Zc} {st:List Stmt} {g:FS}:CoeFun (nL X Z st g) fun _=>∀ tm,nY X st (lS X Z tm g):=⟨fun h=>Bx.h h⟩
noncomputable def a9 (Z:Zc) (i:Nat):Prop:=∀ p∈Z.P,p.1≠i
section
variable {X:Cx} {Z:Zc} {st:Stmt} {rest:List Stmt} {g u:FS} {e:Expr} {pos:Pos}
noncomputable def Q4:FS:=fun d ρ=>d.nx ρ
noncomputable def MA (g u:FS):FS:=fun d ρ=>g { d with nx:=u d } ρ
theorem aB:nL X Z [] Q4:=.mk fun tm=>nY.vh G_ fun D σ H ⟨ρ,O,d,I,h,F⟩=>F.nx O ρ σ H I h
theorem ag (h1:VS X Z st g) (h2:nL X Z rest u):nL X Z (st :: rest) (MA g u):=.mk fun tm=>nY.vh (uX (h1 tm) (h2 tm)) fun D σ H ⟨ρ,O,d,I,h,F⟩ =>
 ⟨ρ,O,{ d with nx:=u d },I,h,⟨fun O' ρ' σ' H' I' h'=>⟨ρ',O',d,I',h',F⟩,F.rt,F.bk,F.ct⟩⟩
theorem ah (h1:VS X Z st g):nL X Z [st] g:=.mk fun tm=>zq (h1 tm)
theorem nL.weak (h:nL X Z rest g) (hw:∀ d ρ,u d ρ→g d ρ):nL X Z rest u:=.mk fun tm=>nY.vh (h tm) fun D σ H ⟨ρ,O,d,I,q,F⟩=>⟨ρ,O,d,I,hw d ρ q,F⟩
noncomputable def Q5 (f:FX):FS:=fun d ρ=>f ρ fun ρ' _=>d.nx ρ'
theorem bp {f:FX} (h:VX X Z e f) (hs:swapsWith e none pos.line X.env=pure false:=by rfl):VS X Z (.Expr e pos) (Q5 f):=.mk fun tm=>PS.weak (G' (h tm) hs) fun D σ H ⟨ρ,O,d,I,q,F⟩ =>
 ⟨ρ,O,_,I,q,fun ρ' r hr O' v H' z=>F.nx O' ρ' σ H' z.env hr⟩
noncomputable def Xy (f:FX):FS:=fun d ρ=>f ρ fun ρ' r=>d.rt ρ' r
theorem aD {f:FX} (h:VX X Z e f):VS X Z (.Return (some e) pos) (Xy f):=.mk fun tm=>PS.weak (CS (h tm)) fun D σ H ⟨ρ,O,d,I,q,F⟩ =>
 ⟨ρ,O,_,I,q,fun ρ' r hr O' v H' z=>F.rt O' ρ' σ H' r v z hr⟩
noncomputable def gIf (c:FB) (g u:FS):FS:=fun d ρ=>c ρ fun b=>if b=true then g d ρ else u d ρ
theorem aY {c:Expr} {fc:FB} {a b:List Stmt} (hc:VC X Z c fc) (ha:nL X Z a g) (hb:nL X Z b u):VS X Z (.If c a b pos) (gIf fc g u):=.mk fun tm=>PS.weak (Qb (hc tm) (ha tm) (hb tm)) fun D σ H ⟨ρ,O,d,I,q,F⟩ =>
 ⟨ρ,O,_,I,q,fun b hb H' s=>by
   cases b with
   | true=>rw [if_pos rfl] at hb ⊢; exact ⟨ρ,O,d,I.same s,hb,F⟩
   | false=>rw [if_neg c7] at hb ⊢; exact ⟨ρ,O,d,I.same s,hb,F⟩⟩
noncomputable def Q6 (i:Nat) (f:FX):FS:=fun d ρ=>f ρ fun ρ' r=>d.nx (ρ'.set i (some (r.t,false)))
noncomputable def Xz (i:Nat) (f:FX):FS:=fun d ρ=>f ρ fun ρ' r=>match r with
 | .fr t=>d.nx (ρ'.set i (some (t,true)))
 | _=>False
theorem ba {i:Nat} {x:Str} {f:FX} {pos':Pos} (hN:X.N.Nodup) (hi:X.N[i]?=some x) (hx:Loc X.env.scope x) (he:VX X Z e f) (hp:a9 Z i) (hs:swapsWith e (some (.Name x pos')) pos.line X.env=pure false:=by rfl)
  (hf:X.fn x=true∨X.env.scope.names.lookup x=some .local:=by first | exact .inl rfl | exact .inr rfl | assumption):VS X Z (.Assign [.Name x pos'] e pos) (Q6 i f):=.mk fun tm=>PS.weak (CW hN hi hx (he tm) hs hf) fun D σ H ⟨ρ,O,d,I,q,F⟩ =>
 ⟨ρ,O,_,I,q,fun ρ' r hr O' v H' z=>F.nx _ _ _ H' (z.env.put hp z.at) hr⟩
theorem c6 {i:Nat} {x:Str} {f:FX} {pos':Pos} (hN:X.N.Nodup) (hi:X.N[i]?=some x) (hx:Loc X.env.scope x) (he:VX X Z e f) (hp:a9 Z i) (hs:swapsWith e (some (.Name x pos')) pos.line X.env=pure false:=by rfl)
  (hf:X.fn x=true∨X.env.scope.names.lookup x=some .local:=by first | exact .inl rfl | exact .inr rfl | assumption):VS X Z (.Assign [.Name x pos'] e pos) (Xz i f):=.mk fun tm=>PS.weak (CW hN hi hx (he tm) hs hf) fun D σ H ⟨ρ,O,d,I,q,F⟩ =>
 ⟨ρ,O,_,I,q,fun ρ' r hr O' v H' z=>by
   split at hr
   · obtain ⟨a,rfl,J,hR,h0,Pb⟩:=z
     exact F.nx _ _ _ H' (J.Xi hp hR h0 Pb) hr
   · exact hr.elim⟩
noncomputable def XA (is:List Nat) (g:FS):FS:=fun d ρ=>g d (is.foldl (fun ρ i=>match ρ[i]? with
 | some (some (t,true))=>ρ.set i (some (t,false))
 | _=>ρ) ρ)
theorem oK {K:PySem.W.Frag} {tm:List (T×V)}:∀ (is:List Nat) {O:List (Option Addr)} {ρ:En} {σ:St} {H:Hp},(∀ i∈is,a9 Z i)→aw K Z tm O ρ σ H→∃ O',aw K Z tm O' (is.foldl (fun ρ i=>match ρ[i]? with
 | some (some (t,true))=>ρ.set i (some (t,false))
 | _=>ρ) ρ) σ H
 | [],O,ρ,σ,H,_,I=>⟨O,I⟩
 | i :: is,O,ρ,σ,H,hp,I=>by
   rw [List.foldl_cons]
   have Pc:∀ j∈is,a9 Z j:=fun j hj=>hp j (jc _ hj)
   split
   · rename_i t e
     exact oK is Pc (I.uR (hp i iw) e)
   · exact oK is Pc I
theorem Ic (is:List Nat) (h:nL X Z rest g) (hp:∀ i∈is,a9 Z i):nL X Z rest (XA is g):=.mk fun tm=>nY.vh (h tm) fun D σ H ⟨ρ,O,d,I,q,F⟩=>let ⟨O',I'⟩:=oK is hp I; ⟨_,O',d,I',q,F⟩
end
section
variable {X:Cx} {Z:Zc} {e a b:Expr} {es:List Expr} {pos apos bj:Pos}
theorem aw.root {K:PySem.W.Frag} {tm:List (T×V)} {O:List (Option Addr)} {ρ:En} {σ:St} {H:Hp} (I:aw K Z tm O ρ σ H) {k:Nat} {t:T} (e:ρ[k]?=some (some (t,true))):∃ a,O[k]?=some (some a)∧σ[k]?=some (some (.ref a))∧cC K H (av Z O) a t:=by
 obtain ⟨o,s,h1,h2,a,rfl,rfl,h3⟩:=I.sl k _ e
 exact ⟨a,h1,h2,h3⟩
noncomputable def zG (k:Nat) (g:FA) (p:List T→List T→(List T→T→Prop)→Prop):FX:=fun ρ Q=>match ρ[k]? with
 | some (some (.lst ts,true))=>g ρ fun vs=>p ts vs fun kg r=>Q (ρ.set k (some (.lst kg,true))) (.vw r)
 | _=>False
noncomputable def Q7 (K:PySem.W.Frag) (r:V→List V→Hp→VK→Prop) (p:List T→List T→(List T→T→Prop)→Prop):Prop :=
 ∀ (H:Hp) (A:List Addr) (l:Addr) (xs:List V) (ts us:List T) (vs:List V) (q:List T→T→Prop) (Q:VK),l∈A→H l=some (.lst xs)→aA K H A ts xs→aA K H A us vs→p ts us q →
  (∀ kg t,q kg t→∀ Vq v,aA K H A kg Vq→At K H A t v→Q v (upd H l (.lst Vq)))→r (.ref l) vs H Q
theorem zH {r:V→List V→Hp→VK→Prop} {p:List T→List T→(List T→T→Prop)→Prop} (hm:Q7 X.K r p) {k:Nat} {g:FA} {tm:List (T×V)} {σ:St} {H:Hp} {Q:VK} (h:lX X Z tm (zG k g p) σ H Q) :
  ∃ l,σ[k]?=some (some (.ref l))∧(∃ xs,gy X.K H l xs)∧lA X Z tm g σ H fun vs H1=>r (.ref l) vs H1 Q:=by
 obtain ⟨ρ,O,q,I,hf,kk⟩:=h
 unfold zG at hf
 split at hf
 · rename_i ts e0
   obtain ⟨l,h1,h2,xs,h3,h4⟩:=I.root e0
   refine ⟨l,h2,⟨xs,gy.of h3⟩,ρ,O,_,I,hf,fun us WZ vs H1 s1 a1=>?_⟩
   have J:=I.same s1
   have ha:l∈av Z O:=jR _ (aQ.mpr (j7 h1))
   refine hm H1 (av Z O) l xs ts us vs _ Q ha (s1 _ _ h3) (h4.same s1) a1 WZ fun kg t ht Vq v b1 b2=>?_
   exact kk _ _ ht O _ _ ⟨J.wrote e0 h1 ⟨Vq,a_,b1.wrote ha (s1 _ _ h3) rfl⟩,b2.wrote ha (s1 _ _ h3) rfl⟩
 · exact hf.elim
theorem fZ (k:Nat) {x name:Str} {id:String} {p:Pos} {g:FA} {r:V→List V→Hp→VK→Prop} {pp:List T→List T→(List T→T→Prop)→Prop} (slot:Slot "list" name id) (Mb:typeOf (.builtin id)=pure (.type "method_descriptor")) (hm:Hw X id r) (ht:Q7 X.K r pp) (ha:VA X Z (e :: es) g)
  (hN:X.N[k]?=some x:=by rfl) (hv:xA X.env.scope x:=by first | exact Or.inl rfl | exact Or.inr (Or.inl rfl) | exact Or.inr (Or.inr rfl)) (hd:(x == ("__debug__" : Str))=false:=by decide)
  (j8:(x == ("__classdict__" : Str))=false:=by decide) (dC:attributeBase (.Name x p) name X.env (eval (.Name x p) X.env)=eval (.Name x p) X.env:=by rfl)
  (l_:((backTo bj (starEach (e :: es) X.env)).all (fun x=>!x.1) && (backToKw bj (keywordEach [] X.env)).all (fun x=>x.1.isSome)
    && decide ((e :: es).length+([]:List Keyword).length+(if ([]:List Keyword).isEmpty then 0 else 1) < 30))=true:=by rfl)
  (dD:(apos.endLine == bj.line)=true:=by rfl) (hs:starEach (e :: es) X.env=(false,eval e X.env) :: starEach es X.env:=by rfl) (d7:(backTo bj (starEach es X.env)).any (·.1)=false:=by rfl) :
  VX X Z (.Call (.Attribute (.Name x p) name apos) (e :: es) [] bj) (zG k g pp):=.mk fun tm =>
 PE.weak (rC UZ slot Mb hm (fm hN hv hd j8) (ha tm) dC l_ dD hs d7) fun σ H Q h =>
  let ⟨l,h1,h2,h3⟩:=zH ht h; ⟨.ref l,h1,.inl ⟨rfl,h2⟩,h3⟩
theorem yf (k:Nat) {x name:Str} {id:String} {p:Pos} {r:V→List V→Hp→VK→Prop} {pp:List T→List T→(List T→T→Prop)→Prop} (slot:Slot "list" name id) (Mb:typeOf (.builtin id)=pure (.type "method_descriptor")) (hm:Hw X id r) (ht:Q7 X.K r pp)
  (hN:X.N[k]?=some x:=by rfl) (hv:xA X.env.scope x:=by first | exact Or.inl rfl | exact Or.inr (Or.inl rfl) | exact Or.inr (Or.inr rfl)) (hd:(x == ("__debug__" : Str))=false:=by decide)
  (j8:(x == ("__classdict__" : Str))=false:=by decide) (dC:attributeBase (.Name x p) name X.env (eval (.Name x p) X.env)=eval (.Name x p) X.env:=by rfl)
  (dD:(apos.endLine == bj.line)=true:=by rfl):VX X Z (.Call (.Attribute (.Name x p) name apos) [] [] bj) (zG k A1 pp):=.mk fun tm =>
 PE.weak (Dd UZ slot Mb hm (fm hN hv hd j8) dC dD) fun σ H Q h=>by
  obtain ⟨l,h1,h2,ρ,O,q,I,hf,kk⟩:=zH ht h
  exact ⟨.ref l,h1,.inl ⟨rfl,h2⟩,kk [] hf [] H (aX.refl H) aA.nil⟩
noncomputable def zI (ts us:List T) (q:List T→T→Prop):Prop:=match us with
 | [t]=>ts.length < sizeLine∧q (ts ++ [t]) .bb
 | _=>False
theorem br {K:PySem.W.Frag}:Q7 K zB zI:=by
 intro H A l xs ts us vs q Q hl hH h1 h2 hp k
 unfold zI at hp
 split at hp
 · obtain ⟨v,rfl,a⟩:=cx (aA.iff.mp h2)
   exact ⟨l,xs,v,rfl,rfl,hH,by rw [h1.length]; exact hp.1,k _ _ hp.2 _ _ (h1.append (aA.cons a aA.nil)) md⟩
 · exact hp.elim
noncomputable def XB (ts us:List T) (q:List T→T→Prop):Prop:=us=[]∧∃ t,ts[ts.length - 1]?=some t∧q ts.dropLast t
theorem aA.dropLast {K:PySem.W.Frag} {H:Hp} {A:List Addr} {ts:List T} {vs:List V} (h:aA K H A ts vs):aA K H A ts.dropLast vs.dropLast:=by
 rw [List.dropLast_eq_take,List.dropLast_eq_take,h.length]
 exact h.take _
theorem sQ {K:PySem.W.Frag}:Q7 K QJ XB:=by
 intro H A l xs ts us vs q Q hl hH h1 h2 hp k
 obtain ⟨rfl,t,e1,hq⟩:=hp
 have e:vs=[]:=by simpa only [aA] using h2
 obtain ⟨v,e2,a⟩:=h1.get e1
 exact ⟨l,xs,v,rfl,e,hH,by rw [h1.length]; exact e2,k _ _ hq _ _ h1.dropLast a⟩
noncomputable def MB (k:Nat) (f fi:FE):FS:=fun d ρ=>f ρ fun v=>fi ρ fun i=>match ρ[k]?,i with
 | some (some (.lst ts,true)),.int j=>∃ n,qk ts.length j=some n∧d.nx (ρ.set k (some (.lst (ts.set n v),true)))
 | _,_=>False
noncomputable def Kv (k:Nat) (f fi:FE):FS:=fun d ρ=>match ρ[k]? with
 | some (some (.lst ts,true))=>f ρ fun v=>fi ρ fun i=>match i with
   | .int j=>∃ n,qk ts.length j=some n∧d.nx (ρ.set k (some (.lst (ts.set n v),true)))
   | _=>False
 | _=>False
theorem gX (k:Nat) {x:Str} {p:Pos} {f fi:FE} {i:Expr} {l7:Pos} (he:VE X Z e f) (hi:VR X Z i fi)
  (hN:X.N[k]?=some x:=by rfl) (hv:xA X.env.scope x:=by first | exact Or.inl rfl | exact Or.inr (Or.inl rfl) | exact Or.inr (Or.inr rfl)) (hd:(x == ("__debug__" : Str))=false:=by decide)
  (j8:(x == ("__classdict__" : Str))=false:=by decide)
  (ha:∀ v,assign (.Subscript (.Name x p) i l7) X.env v=(do
    let ov ← holding [v] (eval (.Name x p) X.env)
    let iv ← holding [v,ov] (eval i X.env)
    standAt l7
    holding [v,ov,iv] (setItem ov iv v)
    release [v,ov,iv] []):=by intro _; rfl)
  (hs:swapsWithSole [.Subscript (.Name x p) i l7] e pos.line X.env=pure false:=by rfl) (hw:swappedStores [.Subscript (.Name x p) i l7] e X.env=pure none:=by rfl)
  (h1:(assignEach [.Subscript (.Name x p) i l7] X.env).map (·.2)=[assign (.Subscript (.Name x p) i l7) X.env]:=by rfl):VS X Z (.Assign [.Subscript (.Name x p) i l7] e pos) (Kv k f fi):=.mk fun tm =>
 PS.weak (CV (he tm) (LI (fm hN hv hd j8) (hi tm) set_list ha) hs hw h1) fun D σ H ⟨ρ,O,d,I,q,F⟩=>by
  unfold Kv at q
  split at q
  · rename_i ts e0
    obtain ⟨l,h1,h2,xs,h3,h4⟩:=I.root e0
    have ha:l∈av Z O:=jR _ (aQ.mpr (j7 h1))
    refine ⟨ρ,O,_,I,q,fun t ht v H1 s1 a1=>⟨.ref l,h2,ρ,O,_,I.same s1,ht,fun j hj w H2 s2 a2=>?_⟩⟩
    split at hj
    · obtain ⟨n,e1,hj⟩:=hj
      refine ⟨l,xs,_,n,rfl,a2.int,s2 _ _ (s1 _ _ h3),by rw [h4.length]; exact e1,?_⟩
      refine F.nx O _ σ _ (((I.same s1).same s2).wrote (t':=.lst (ts.set n t)) e0 h1 ⟨xs.set n v,a_,?_⟩) hj
      exact aA.wrote ha (s2 _ _ (s1 _ _ h3)) rfl (((h4.same s1).same s2).set n (a1.same s2))
    · exact hj.elim
  · exact q.elim
theorem aw.give {K:PySem.W.Frag} {tm:List (T×V)} {O:List (Option Addr)} {ρ:En} {σ:St} {H:Hp} (I:aw K Z tm O ρ σ H) {i:Nat} {t:T} (hp:a9 Z i) (hi:ρ[i]?=some (some (t,true))):∃ a,σ[i]?=some (some (.ref a))∧gU K Z tm (O.set i none) (ρ.set i none) σ H (.fr t) (.ref a):=by
 obtain ⟨a,h1,h2,h3⟩:=I.root hi
 have ha:a∈roots O:=aQ.mpr (j7 h1)
 obtain ⟨o1,o2,o3⟩:=I.own a ha
 have J:=I.forget hp
 have J2:=I.uR hp hi
 have na:a∉roots (O.set i none):=fun z=>by
  obtain ⟨o,s,g1,g2,g3,v,g4,g5⟩:=J2.sl i (some (t,false)) (by rw [Aw (by rw [← I.lO]; exact (cn.mp h1).1)])
  rw [h2] at g2
  cases g2
  cases g4
  have nn:a∉av Z (O.set i none):=by
   obtain ⟨u,eu,mu⟩:=h3.mut
   cases t with
   | lst ts=>simp only [At] at g5; obtain ⟨b,vs,eb,l,_⟩:=g5; cases eb; rcases l with l | ⟨oo,_,_,lk,_⟩
             · exact l.2
             · exact fun z2=>by
                have key:∀ (O:List (Option Addr)) (i:Nat),O[i]?=some (some a)→(roots O).Nodup→a∉roots (O.set i none):=by
                 intro O
                 induction O with
                 | nil=>intro i h; simp at h
                 | cons o O ih =>
                   intro i h nd
                   cases i with
                   | zero =>
                     have:o=some a:=by simpa using h
                     subst this
                     simp only [roots,U7,nX,id] at nd ⊢
                     exact (ow.mp nd).1
                   | succ i =>
                     have h':O[i]?=some (some a):=by simpa using h
                     cases o with
                     | none=>simp only [roots,OS,nX,id] at nd ⊢; exact ih i h' nd
                     | some b =>
                       simp only [roots,OS,nX,id] at nd ⊢
                       rw [ow] at nd
                       intro z
                       rcases cZ.mp z with z | z
                       · exact nd.1 (by rw [← z]; exact aQ.mpr (j7 h'))
                       · exact ih i h' nd.2 z
                rcases g_.mp z2 with z2 | z2
                · exact key O i h1 I.nd z2
                · exact o2 z2
   | dk ks ts=>simp only [At] at g5; obtain ⟨b,vs,eb,_,d,_⟩:=g5; cases eb; exact d.2
   | dt ks ts=>simp only [At] at g5; obtain ⟨b,vs,eb,_,d,_⟩:=g5; cases eb; exact d.2
   | ins C ns ts=>simp only [At] at g5; obtain ⟨b,dx,vs,eb,_,d,_⟩:=g5; cases eb; exact d.2
   | _=>exact h3.elim
  exact nn (jR _ z)
 have hP:Z.H0 a=none:=by
  rcases o1 with z | z
  · obtain ⟨p,hpm,rfl⟩:=uO.mp z
    have:=J.par p hpm
    exact absurd (aQ.mpr (j7 this)) na
  · exact z
 have sub:∀ b∈av (Z.ex a) (O.set i none),b∈av Z O:=fun b hb=>by
  rcases cR b hb with z | z
  · exact bM i b z
  · rw [z]; exact jR _ ha
 refine ⟨a,h2,a,rfl,⟨J.lσ,J.lO,fun j e h=>?_,J.nd,fun b hb=>?_,J.par,fun b hb=>?_,J.keep,fun p hp=>(I.qf p hp).bo sub⟩,h3.bo sub,hP,o2⟩
 · rcases get_set h with ⟨rfl,rfl,hl⟩ | ⟨ne,h⟩
   · obtain ⟨o,s,g1,g2,g3⟩:=J.sl j none (by rw [Aw hl])
     exact ⟨o,s,g1,g2,g3⟩
   · obtain ⟨o,s,g1,g2,g3⟩:=I.sl j e h
     exact ⟨o,s,by rw [qg (Ne.symm ne)]; exact g1,g2,g3.map (fun _ _ q=>q.bo sub) fun _ _ _ q=>q.bo sub⟩
 · obtain ⟨q1,q2,q3⟩:=J.own b hb
   refine ⟨q1,fun z=>?_,q3⟩
   rcases cZ.mp z with z | z
   · exact na (by rw [← z]; exact hb)
   · exact q2 z
 · rcases cZ.mp hb with z | z
   · obtain ⟨u,eu,_⟩:=o3; rw [z,eu]; simp
   · exact I.ox b z
noncomputable def Kw (i:Nat):FX:=fun ρ Q=>match ρ[i]? with
 | some (some (t,true))=>Q (ρ.set i none) (.fr t)
 | some (some (t,false))=>Q ρ (.vw t)
 | _=>False
theorem iI (i:Nat) {x:Str} (hp:a9 Z i) (hN:X.N[i]?=some x:=by rfl) (hv:xA X.env.scope x:=by first | exact Or.inl rfl | exact Or.inr (Or.inl rfl) | exact Or.inr (Or.inr rfl)) (hd:(x == ("__debug__" : Str))=false:=by decide)
  (j8:(x == ("__classdict__" : Str))=false:=by decide):VX X Z (.Name x pos) (Kw i):=.mk fun tm=>PE.weak (fm hN hv hd j8) fun σ H Q ⟨ρ,O,q,I,hf,k⟩=>by
 unfold Kw at hf
 split at hf
 · rename_i t e
   obtain ⟨a,h1,h2⟩:=I.give hp e
   exact ⟨_,h1,k _ _ hf _ _ H h2⟩
 · rename_i t e
   obtain ⟨o,s,h1,h2,rfl,v,rfl,h3⟩:=I.sl i _ e
   exact ⟨v,h2,k _ _ hf O v H ⟨I,h3⟩⟩
 · exact hf.elim
end
theorem aw.vk {K:PySem.W.Frag} {Z:Zc} {tm Z1:List (T×V)} {O:List (Option Addr)} {ρ:En} {σ:St} {H:Hp} (I:aw K Z tm O ρ σ H) (h:∀ p∈Z1,At K H (av Z O) p.1 p.2):aw K Z Z1 O ρ σ H :=
 ⟨I.lσ,I.lO,I.sl,I.nd,I.own,I.par,I.ox,I.keep,h⟩
theorem gU.vk {K:PySem.W.Frag} {Z:Zc} {bN tm:List (T×V)} {O:List (Option Addr)} {ρ:En} {σ:St} {H:Hp} {r:Rt} {v:V} (h:gU K Z (bN ++ tm) O ρ σ H r v):gU K Z tm O ρ σ H r v:=by
 cases r with
 | vw t=>exact ⟨h.1.vk fun p hp=>h.1.qf p (jW _ hp),h.2⟩
 | fr t=>obtain ⟨a,e,I,q⟩:=h; exact ⟨a,e,I.vk fun p hp=>I.qf p (jW _ hp),q⟩
noncomputable def Wk (K:PySem.W.Frag) (J:It) (bN:List (T×V)) (ts:List T):Prop:=∀ H A,(∀ a∈A,H a≠none)→(∀ p∈bN,At K H A p.1 p.2)→∀ i:Nat,
 (i < ts.length→J.go i H)∧(ts.length=i→J.stop i H)∧∀ t,ts[i]?=some t→∀ x H',J.Qe i H x H'→aX H H'∧At K H' A t x
noncomputable abbrev FI:=En→(List T→Prop)→Prop
noncomputable def lI (X:Cx) (Z:Zc) (tm:List (T×V)) (f:FI):TI:=fun σ H R=>∃ ρ O q,aw X.K Z tm O ρ σ H∧f ρ q∧∀ ts,q ts→∀ J H' bN,aX H H'→(∀ p∈bN,At X.K H' (av Z O) p.1 p.2)→Wk X.K J bN ts→R J H'
noncomputable def VI (X:Cx) (Z:Zc) (tg iter:Expr) (f:FI):Prop:=Bx fun tm=>PI X tg iter (lI X Z tm f)
noncomputable instance {X:Cx} {Z:Zc} {tg iter:Expr} {f:FI}:CoeFun (VI X Z tg iter f) fun _=>∀ tm,PI X tg iter (lI X Z tm f):=⟨fun h=>Bx.h h⟩
theorem PI.weak {X:Cx} {tg e:Expr} {t t':TI} (h:PI X tg e t) (hw:∀ σ H R,t' σ H R→t σ H R):PI X tg e t':=fun pins s σ H R I q=>h pins s σ H R I (hw _ _ _ q)
theorem PG.weak {X:Cx} {tg:Expr} {t t':TG} (h:PG X tg t) (hw:∀ v σ H Q,t' v σ H Q→t v σ H Q):PG X tg t':=fun pins s σ H v u Q I r q=>h pins s σ H v u Q I r (hw _ _ _ _ q)
theorem CT.weak {X:Cx} {tg:List Expr} {t t':Ha} (h:CT X tg t) (hw:∀ v σ H Q,t' v σ H Q→t v σ H Q):CT X tg t':=fun pins s σ H v u Q I r q=>h pins s σ H v u Q I r (hw _ _ _ _ q)
noncomputable def XC (K:PySem.W.Frag) (tl:TE):TI:=fun σ H R=>tl σ H fun x H1=>(∃ a,x = .ref a∧(∃ xs,gy K H1 a xs)∧R (WH K a) H1)∨(∃ a,x = .ref a∧(∃ xs,dZ K H1 a xs)∧R (WI K a) H1)∨∃ z,x = .str z∧R (Vn z) H1
section
variable {X:Cx} {Z:Zc} {tg:Expr}
theorem MC {l:Expr} {tl:TE} (hl:PE X l tl):PI X tg l (XC X.K tl):=by
 intro pins s σ H R I h
 refine cb (hl pins s σ H _ I h) fun v s1 ⟨x,H1,I1,r1,q1⟩=>?_
 rcases q1 with ⟨a,e,hq,q⟩ | ⟨a,e,hq,q⟩ | ⟨z,e,q⟩
 · subst e
   cases r1
   obtain ⟨xs,hq⟩:=hq
   obtain ⟨aP,rv,p,hz⟩:=I1.list hq
   refine wpAny_pyIter_list p.isList ?_
   refine ⟨s1.heap.objs.size,[s1.heap.objs.size],_,_,H1,rfl,I1.kept (t':=s1.toks) fun b o e=>fF _ e,AE a _,⟨_,mZ _ rfl,rfl,rfl⟩,fun b hb=>?_,q⟩
   have e:b=s1.heap.objs.size:=by simpa using hb
   subst e
   exact I1.qi (cA _) (I1.bV.fresh (cA _))
 · subst e
   cases r1
   obtain ⟨xs,hq⟩:=hq
   obtain ⟨aP,rv,p,hz⟩:=I1.tuple hq
   refine wpAny_pyIter_tuple (show s1.heap.IsTuple a aP.toArray from p) ?_
   refine ⟨s1.heap.objs.size,[s1.heap.objs.size],_,_,H1,rfl,I1.kept (t':=s1.toks) fun b o e=>fF _ e,xP a _,⟨_,mZ _ rfl,rfl,rfl⟩,fun b hb=>?_,q⟩
   have e:b=s1.heap.objs.size:=by simpa using hb
   subst e
   exact I1.qi (cA _) (I1.bV.fresh (cA _))
 · subst e
   obtain ⟨t,rfl⟩:=r1
   refine wpAny_pyIter_strU ?_
   have I2:Inv X pins σ H1 { s1 with heap:=s1.heap.push { cls:=.type (strIterType z),data:=.fields #[.str z t,.int 0 0] } }:=I1.kept (t':=s1.toks) fun b o e=>fF _ e
   refine ⟨s1.heap.objs.size,[s1.heap.objs.size],_,_,H1,rfl,I2,Dn z t _,⟨_,mZ _ rfl,rfl,rfl⟩,fun b hb=>?_,q⟩
   have e:b=s1.heap.objs.size:=by simpa using hb
   subst e
   exact I1.qi (cA _) I1.fresh
noncomputable def XD (f:FE):FI:=fun ρ Q=>f ρ fun t=>match t with
 | .lst ts=>Q ts
 | .tup ts=>Q ts
 | .str z=>Q (z.cps.toList.map fun c=>.str ⟨#[c]⟩)
 | _=>False
theorem Ie {K:PySem.W.Frag} {a:Addr} {ts:List T}:Wk K (WH K a) [(.lst ts,.ref a)] ts:=fun H A hA h i=>by
 have h:=h _ iw
 simp only [At] at h
 obtain ⟨b,vs,e,l,q⟩:=h
 cases e
 have hl:=q.length
 refine ⟨fun hi=>⟨vs,vs[i]'(by omega),l.sq,by simp⟩,fun hi=>⟨vs,l.sq,by omega⟩,fun t ht x H' y=>?_⟩
 obtain ⟨rfl,y⟩:=y
 obtain ⟨v,e1,e2⟩:=q.get ht
 have:=y vs l.sq
 rw [e1] at this
 cases this
 exact ⟨aX.refl _,e2⟩
theorem MD {K:PySem.W.Frag} {a:Addr} {ts:List T}:Wk K (WI K a) [(.tup ts,.ref a)] ts:=fun H A hA h i=>by
 have h:=h _ iw
 simp only [At] at h
 obtain ⟨b,vs,e,l,q⟩:=h
 cases e
 have hl:=q.length
 refine ⟨fun hi=>⟨vs,vs[i]'(by omega),l,by simp⟩,fun hi=>⟨vs,l,by omega⟩,fun t ht x H' y=>?_⟩
 obtain ⟨rfl,y⟩:=y
 obtain ⟨v,e1,e2⟩:=q.get ht
 have:=y vs l
 rw [e1] at this
 cases this
 exact ⟨aX.refl _,e2⟩
theorem ME {K:PySem.W.Frag} {z:Str}:Wk K (Vn z) [] (z.cps.toList.map fun c=>T.str ⟨#[c]⟩):=fun H A hA h i=>by
 refine ⟨fun hi=>by rw [b_,OR] at hi; exact hi,fun hi=>by rw [b_,OR] at hi; exact Nat.le_of_eq hi,fun t ht x H' y=>?_⟩
 obtain ⟨rfl,c,hc,rfl⟩:=y
 rw [gw,Array.getElem?_toList,hc] at ht
 cases ht
 exact ⟨aX.refl _,bJ⟩
theorem jo {l:Expr} {f:FE} (h:VE X Z l f):VI X Z tg l (XD f):=.mk fun tm=>PI.weak (MC (h tm)) fun σ H R ⟨ρ,O,q,I,hf,k⟩=>⟨ρ,O,_,I,hf,fun t ht v H' s a=>by
 split at ht
 · have a0:=a
   simp only [At] at a
   obtain ⟨p,vs,rfl,l,_⟩:=a
   exact .inl ⟨p,rfl,⟨vs,l.sq⟩,k _ ht _ H' _ s (fun p hp=>by rw [ou.mp hp]; exact a0) Ie⟩
 · have a0:=a
   simp only [At] at a
   obtain ⟨p,vs,rfl,l,_⟩:=a
   exact .inr (.inl ⟨p,rfl,⟨vs,l⟩,k _ ht _ H' _ s (fun p hp=>by rw [ou.mp hp]; exact a0) MD⟩)
 · have e:=a
   simp only [At] at e
   exact .inr (.inr ⟨_,e,k _ ht _ H' [] s (fun p hp=>nomatch hp) ME⟩)
 · exact ht.elim⟩
noncomputable def rangeT (lo:Int) (n:Nat):List T:=(List.range n).map fun i=>T.int (lo+((i:Nat):Int))
theorem vm {K:PySem.W.Frag} {lo:Int} {n:Nat}:Wk K (Qf lo n) [] (rangeT lo n):=fun H A hA h i=>by
 unfold rangeT
 refine ⟨fun hi=>by rw [b_,GY] at hi; exact hi,fun hi=>by rw [b_,GY] at hi; exact Nat.le_of_eq hi,fun t ht x H' y=>?_⟩
 obtain ⟨rfl,rfl⟩:=y
 rw [gw] at ht
 cases e:(List.range n)[i]? with
 | none=>rw [e] at ht; cases ht
 | some j =>
   rw [e] at ht
   have hj:j=i:=by
    have:=cn.mp e
    obtain ⟨h1,h2⟩:=this
    simpa using h2.symm
   subst hj
   cases ht
   exact ⟨aX.refl _,bG⟩
noncomputable def Z2 (ts:List T) (Q:List T→Prop):Prop:=match ts with
 | [.int j]=>-(2 ^ 62)≤j∧j < 2 ^ 62∧Q (rangeT 0 j.toNat)
 | _=>False
noncomputable def Z3 (ts:List T) (Q:List T→Prop):Prop:=match ts with
 | [.int i,.int j]=>(-(2 ^ 62)≤i∧i < 2 ^ 62∧-(2 ^ 62)≤j∧j < 2 ^ 62)∧Q (rangeT i (j - i).toNat)
 | _=>False
noncomputable def DD (g:FA) (p:List T→(List T→Prop)→Prop):FI:=fun ρ Q=>g ρ fun ts=>p ts Q
theorem d8 {a:Expr} {g:FE} {p pos:Pos} (hg:Gl X "range") (hm:X.mg "range" = none) (ha:VR X Z a g) (hs:starEach [a] X.env=[(false,eval a X.env)]:=by rfl) :
  VI X Z tg (.Call (.Name "range" p) [a] [] pos) (DD (oH g A1) Z2):=.mk fun tm=>PI.weak (AF hg hm ((ar ha az hs) tm) hs) fun σ H R ⟨ρ,O,q,I,hf,k⟩=>⟨ρ,O,_,I,hf,fun ts fj vs H' s a=>by
 unfold Z2 at fj
 split at fj
 · obtain ⟨v,rfl,a1⟩:=cx a
   exact ⟨_,by rw [a1.int],fj.1,fj.2.1,k _ fj.2.2 _ H' [] s (fun p hp=>nomatch hp) vm⟩
 · exact fj.elim⟩
theorem A2 {a b:Expr} {g h:FE} {p pos:Pos} (hg:Gl X "range") (hm:X.mg "range" = none) (ha:VR X Z a g) (hb:VR X Z b h) (hs:starEach [a,b] X.env=[(false,eval a X.env),(false,eval b X.env)]:=by rfl) (rn:starEach [b] X.env=[(false,eval b X.env)]:=by rfl) :
  VI X Z tg (.Call (.Name "range" p) [a,b] [] pos) (DD (oH g (oH h A1)) Z3):=.mk fun tm=>PI.weak (AG hg hm ((ar ha (ar hb az rn) (by rw [hs,rn])) tm) hs rn) fun σ H R ⟨ρ,O,q,I,hf,k⟩=>⟨ρ,O,_,I,hf,fun ts fj vs H' s a=>by
 unfold Z3 at fj
 split at fj
 · obtain ⟨v,w,rfl,a1,b1⟩:=Ib a
   exact ⟨_,_,by rw [a1.int,b1.int],fj.1,k _ fj.2 _ H' [] s (fun p hp=>nomatch hp) vm⟩
 · exact fj.elim⟩
noncomputable abbrev FG:=T→En→(En→Prop)→Prop
noncomputable abbrev Ig:=List T→En→(En→Prop)→Prop
noncomputable def lG (X:Cx) (Z:Zc) (tm:List (T×V)) (is:List Nat) (h:FG):TG:=fun v σ H Q=>∃ ρ O t q,aw X.K Z tm O ρ σ H∧At X.K H (av Z O) t v∧h t ρ q∧∀ ρ',q ρ'→∀ O' σ',aw X.K Z tm O' ρ' σ' H→(∀ a∈roots O',a∈roots O)→(∀ (j:Nat),j∉is→O'[j]?=O[j]?)→σ'.length=σ.length→(∀ (j:Nat),j∉is→σ'[j]?=σ[j]?)→Q σ' H
noncomputable def Z4 (X:Cx) (Z:Zc) (tm:List (T×V)) (is:List Nat) (h:Ig):Ha:=fun vs σ H Q=>∃ ρ O ts q,aw X.K Z tm O ρ σ H∧aA X.K H (av Z O) ts vs∧h ts ρ q∧∀ ρ',q ρ'→∀ O' σ',aw X.K Z tm O' ρ' σ' H→(∀ a∈roots O',a∈roots O)→(∀ (j:Nat),j∉is→O'[j]?=O[j]?)→σ'.length=σ.length→(∀ (j:Nat),j∉is→σ'[j]?=σ[j]?)→Q σ' H
noncomputable def VG (X:Cx) (Z:Zc) (tg:Expr) (is:List Nat) (h:FG):Prop:=Bx fun tm=>PG X tg (lG X Z tm is h)
noncomputable instance {X:Cx} {Z:Zc} {tg:Expr} {is:List Nat} {h:FG}:CoeFun (VG X Z tg is h) fun _=>∀ tm,PG X tg (lG X Z tm is h):=⟨fun h=>Bx.h h⟩
noncomputable def Q8 (X:Cx) (Z:Zc) (Vr:List Expr) (is:List Nat) (h:Ig):Prop:=Bx fun tm=>CT X Vr (Z4 X Z tm is h)
noncomputable instance {X:Cx} {Z:Zc} {Vr:List Expr} {is:List Nat} {h:Ig}:CoeFun (Q8 X Z Vr is h) fun _=>∀ tm,CT X Vr (Z4 X Z tm is h):=⟨fun h=>Bx.h h⟩
noncomputable def hName (i:Nat):FG:=fun t ρ Q=>Q (ρ.set i (some (t,false)))
theorem aV {i:Nat} {x:Str} {pos:Pos} (hN:X.N.Nodup) (hi:X.N[i]?=some x) (hx:Loc X.env.scope x) (hp:a9 Z i) (hf:X.fn x=true∨X.env.scope.names.lookup x=some .local:=by first | exact .inl rfl | exact .inr rfl | assumption) :
  VG X Z (.Name x pos) [i] (hName i):=.mk fun tm=>PG.weak (Hb hN hi hx hf) fun v σ H Q ⟨ρ,O,t,q,I,a,h,k⟩ =>
 k _ h _ _ (I.put hp a) (cu i) (fun j hj=>qg (fun e=>hj (by simp [e]))) (by simp) fun j hj=>qg (fun e=>hj (by simp [e]))
noncomputable def XE:Ig:=fun ts ρ Q=>ts=[]∧Q ρ
noncomputable def Kx (h:FG) (hs:Ig):Ig:=fun ts ρ Q=>match ts with
 | t :: r=>h t ρ fun ρ'=>hs r ρ' Q
 | []=>False
noncomputable def Q9 (n:Nat) (h:Ig):FG:=fun t ρ Q=>match t with
 | .tup ts=>ts.length=n∧h ts ρ Q
 | _=>False
theorem dJ:Q8 X Z [] [] XE:=.mk fun tm=>CT.weak Hc fun vs σ H Q ⟨ρ,O,ts,q,I,a,h,k⟩=>by
 obtain ⟨rfl,h⟩:=h
 have e:vs=[]:=by simpa only [aA] using a
 exact ⟨e,k _ h O σ I (fun _ z=>z) (fun _ _=>rfl) rfl fun _ _=>rfl⟩
theorem bc {e:Expr} {es:List Expr} {is js:List Nat} {h:FG} {hs:Ig} (h1:VG X Z e is h) (h2:Q8 X Z es js hs)
  (hse:(assignEach (e :: es) X.env).map (·.2)=assign e X.env :: (assignEach es X.env).map (·.2):=by rfl):Q8 X Z (e :: es) (is ++ js) (Kx h hs):=.mk fun tm=>CT.weak (CU (h1 tm) (h2 tm) hse) fun vs σ H Q ⟨ρ,O,ts,q,I,a,hh,k⟩=>by
 unfold Kx at hh
 split at hh
 · simp only [aA] at a
   obtain ⟨v,r,rfl,a1,a2⟩:=a
   refine ⟨v,r,rfl,ρ,O,_,_,I,a1,hh,fun ρ' hρ O' σ' I' ro eo l e=>⟨ρ',O',_,q,I',a2.bo fun b hb=>?_,hρ,fun ρ2 h2 O2 σ2 I2 ro2 eo2 l2 e2=>k ρ2 h2 O2 σ2 I2 (fun a z=>ro a (ro2 a z)) (fun j hj=>?_) (l2.trans l) fun j hj=>?_⟩⟩
   · rcases g_.mp hb with z | z
     · exact jR _ (ro b z)
     · exact jW _ z
   · rw [g_,not_or] at hj
     exact (eo2 j hj.2).trans (eo j hj.1)
   · rw [g_,not_or] at hj
     exact (e2 j hj.2).trans (e j hj.1)
 · exact hh.elim
theorem f_ {es:List Expr} {k:Nat} {is:List Nat} {h:Ig} {n:Nat} {pos:Pos} (hc:X.calm=true) (hh:Q8 X Z es is h)
  (hn:(assignEach es X.env).length=n:=by rfl) (xN:(assignEach es X.env).findIdx? (·.1)=none:=by rfl):VG X Z (.Tuple es k pos) is (Q9 n h):=.mk fun tm=>PG.weak (LH hc (hh tm) hn xN) fun v σ H Q ⟨ρ,O,t,q,I,a,h',kk⟩=>by
 unfold Q9 at h'
 split at h'
 · simp only [At] at a
   obtain ⟨p,vs,rfl,s,a⟩:=a
   exact ⟨p,vs,rfl,s,a.length.trans h'.1,ρ,O,_,q,I,a,h'.2,kk⟩
 · exact h'.elim
noncomputable def XF (f:FE) (h:FG):FS:=fun d ρ=>f ρ fun t=>h t ρ d.nx
theorem MH {tg e:Expr} {f:FE} {is:List Nat} {h:FG} {pos:Pos} (he:VE X Z e f) (hg:VG X Z tg is h) (hs:swapsWithSole [tg] e pos.line X.env=pure false:=by rfl) (hw:swappedStores [tg] e X.env=pure none:=by rfl)
  (h1:(assignEach [tg] X.env).map (·.2)=[assign tg X.env]:=by rfl):VS X Z (.Assign [tg] e pos) (XF f h):=.mk fun tm=>PS.weak (CV (he tm) (hg tm) hs hw h1) fun D σ H ⟨ρ,O,d,I,q,F⟩ =>
 ⟨ρ,O,_,I,q,fun t ht v H' s a=>⟨ρ,O,t,_,I.same s,a,ht,fun ρ' hρ O' σ' I' _ _ _ _=>F.nx O' ρ' σ' H' I' hρ⟩⟩
noncomputable def oM (ts:List T) (h:FG) (g:FS):FS:=fun d ρ=>∃ Pv:Nat→En→Prop,Pv 0 ρ∧(∀ (i:Nat) t ρ',ts[i]?=some t→Pv i ρ'→h t ρ' fun ρ2=>g { nx:=Pv (i+1),ct:=Pv (i+1),bk:=d.nx,rt:=d.rt } ρ2)∧∀ ρ',Pv ts.length ρ'→d.nx ρ'
noncomputable def XG (f:FI) (h:FG) (g:FS):FS:=fun d ρ=>f ρ fun ts=>oM ts h g d ρ
theorem dM {iter:Expr} {body:List Stmt} {f:FI} {is:List Nat} {h:FG} {g:FS} {pos:Pos} (hp:PassesOwn (model X.prog X.w) X.A X.env X.xe) (hc:X.calm=true) (hi:VI X Z tg iter f) (hg:VG X Z tg is h) (hb:nL X Z body g)
  (hs:∀ x,foldedSetIterable iter X.env x=pure x:=by intro _; rfl):VS X Z (.For tg iter body [] pos) (XG f h g):=by
 refine .mk fun tm pins s σ H D I0 hw=>?_
 obtain ⟨ρ,O,d,I,q,F⟩:=hw
 refine LJ (wi:=lI X Z tm f) (g:=fun v σ H Q=>∃ bN,lG X Z (bN ++ tm) is h v σ H Q) (tb:=fun D σ H=>∃ bN,lS X Z (bN ++ tm) g D σ H) hp hc (hi tm) (fun pins s σ H v u Q I r ⟨bN,z⟩=>hg (bN ++ tm) pins s σ H v u Q I r z) (fun pins s σ H D I ⟨bN,z⟩=>hb (bN ++ tm) pins s σ H D I z) hs pins s σ H D I0 ?_
 refine ⟨ρ,O,_,I,q,fun ts fj J H' bN s a wk=>?_⟩
 obtain ⟨Pv,p0,step,fin⟩:=fj
 have J0:aw X.K Z (bN ++ tm) O ρ σ H':=(I.same s).vk fun p hp=>by
  rcases g_.mp hp with z | z
  · exact a p z
  · exact (I.same s).qf p z
 refine ⟨fun i m σ H=>m=ts.length - i∧i≤ts.length∧∃ ρ O,aw X.K Z (bN ++ tm) O ρ σ H∧Pv i ρ,⟨ts.length,by simp,qe _,ρ,O,J0,p0⟩,?_⟩
 rintro i m σ1 H1 ⟨rfl,hi,ρ1,O1,I1,p1⟩
 obtain ⟨w1,w2,w3⟩:=wk H1 (av Z O1) I1.Km (fun p hp=>I1.qf p (jR _ hp)) i
 have un:∀ {O:List (Option Addr)} {ρ:En} {σ:St} {H:Hp},aw X.K Z (bN ++ tm) O ρ σ H→aw X.K Z tm O ρ σ H:=fun I=>I.vk fun p hp=>I.qf p (jW _ hp)
 by_cases gz:i < ts.length
 · refine .inr ⟨w1 gz,fun σ' H'=>∃ ρ O,aw X.K Z (bN ++ tm) O ρ σ' H'∧Pv (i+1) ρ,fun σ' H' ⟨ρ',O',I',p'⟩=>⟨ts.length - (i+1),by omega,rfl,gz,ρ',O',I',p'⟩,fun x H2 y=>?_⟩
   have e:ts[i]?=some ts[i]:=by simp [gz]
   obtain ⟨s2,a2⟩:=w3 ts[i] e x H2 y
   refine ⟨bN,ρ1,O1,ts[i],_,I1.same s2,a2,step i _ ρ1 e p1,fun ρ2 h2 O2 σ2 I2 _ _ _ _=>⟨bN,ρ2,O2,_,I2,h2,?_⟩⟩
   exact ⟨fun O ρ σ H I p=>⟨ρ,O,I,p⟩,fun O ρ σ H r v z p=>F.rt O ρ σ H r v z.vk p,fun O ρ σ H I p=>F.nx O ρ σ H (un I) p,fun O ρ σ H I p=>⟨ρ,O,I,p⟩⟩
 · have e:i=ts.length:=by omega
   subst e
   exact .inl ⟨w2 (rfl),F.nx O1 ρ1 σ1 H1 (un I1) (fin ρ1 p1)⟩
end
theorem d9 (O:List (Option Addr)) (n:Nat):roots (O ++ List.replicate n none)=roots O:=by
 unfold roots
 rw [List.filterMap_append]
 have:(List.replicate n (none:Option Addr)).filterMap id=[]:=by
  induction n with
  | zero=>rfl
  | succ n ih=>rw [ot,nX]; exact ih
 rw [this,xw]
theorem aw.longer {K:PySem.W.Frag} {Z:Zc} {tm:List (T×V)} {O:List (Option Addr)} {ρ:En} {σ:St} {H:Hp} (I:aw K Z tm O ρ σ H) (n:Nat) {τ:St} (hτ:τ.length=n) :
  aw K Z tm (O ++ List.replicate n none) (ρ ++ List.replicate n none) (σ ++ τ) H:=by
 have ea:av Z (O ++ List.replicate n none)=av Z O:=by unfold av; rw [d9]
 refine ⟨by simp [I.lσ,hτ],by simp [I.lO],fun i e h=>?_,by rw [d9]; exact I.nd,fun a h=>I.own a (by rw [d9] at h; exact h),fun p hp=>?_,I.ox,I.keep,fun p hp=>by rw [ea]; exact I.qf p hp⟩
 · rw [ea]
   by_cases hi:i < ρ.length
   · rw [oq hi] at h
     obtain ⟨o,s,h1,h2,h3⟩:=I.sl i e h
     exact ⟨o,s,by rw [oq (by rw [I.lO]; exact hi)]; exact h1,by rw [oq (by rw [I.lσ]; exact hi)]; exact h2,h3⟩
   · rw [sA (by omega),Av] at h
     split at h
     · rename_i hl
       cases h
       refine ⟨none,τ[i - σ.length]'(by rw [I.lσ,hτ]; exact hl),?_,?_,rfl⟩
       · rw [sA (by rw [I.lO]; omega),Av,if_pos (by rw [I.lO]; exact hl)]
       · rw [sA (by rw [I.lσ]; omega)]; simp
     · cases h
 · have:=I.par p hp
   have hl:=(cn.mp this).1
   rw [oq hl]; exact this
theorem aw.MI {K:PySem.W.Frag} {Z:Zc} {tm:List (T×V)} {O:List (Option Addr)} {ρ:En} {σ:St} {H:Hp} {a:Addr} {u o:HO} (I:aw K (Z.ex a) tm O ρ σ H) (hu:H a=some u) (hm:vf u=true) (h0:Z.H0 a=none):aw K (Z.ex a) tm O ρ σ (upd H a o):=by
 have HJ:a∈av (Z.ex a) O:=jW _ iw
 have nr:∀ b∈roots O,b≠a:=fun b hb e=>(I.own b hb).2.1 (by rw [e]; exact iw)
 refine ⟨I.lσ,I.lO,fun i e h=>?_,I.nd,fun b hb=>?_,I.par,fun b hb=>?_,fun b o' e n=>?_,fun p hp=>(I.qf p hp).wrote HJ hu hm⟩
 · obtain ⟨o',s,h1,h2,h3⟩:=I.sl i e h
   refine ⟨o',s,h1,h2,h3.map (fun _ _ q=>q.wrote HJ hu hm) fun b t e q=>?_⟩
   subst e
   exact q.map (aW (nr b (aQ.mpr (j7 h1)))) fun _ _ z=>z.wrote HJ hu hm
 · obtain ⟨q1,q2,v,e,m⟩:=I.own b hb
   exact ⟨q1,q2,v,by rw [aW (nr b hb)]; exact e,m⟩
 · by_cases e:b=a
   · subst e; rw [a_]; simp
   · rw [aW e]; exact I.ox b hb
 · have:b≠a:=fun e'=>by
    subst e'
    have e2:Z.H0 b=some o':=e
    rw [h0] at e2; cases e2
   rw [aW this]; exact I.keep b o' e n
noncomputable def cH (h:FG) (fc:FB) (fe:FE) (ρ:En):List T→(List T→Prop)→Prop
 | [],Q=>Q []
 | t :: ts,Q=>h t ρ fun ρ2=>fc ρ2 fun b=>if b=true then fe ρ2 fun u=>cH h fc fe ρ ts fun us=>Q (u :: us) else cH h fc fe ρ ts Q
noncomputable def zJ (n:Nat) (is:List Nat) (f:FI) (h:FG) (fc:FB) (fe:FE):FP:=fun ρ Q=>(is.all fun j=>decide (ρ.length≤j))=true∧f ρ fun ts=>ts.length≤sizeLine∧cH h fc fe (ρ ++ List.replicate n none) ts fun us=>Q (.fr (.lst us))
noncomputable def Q_ (X:Cx) (Z:Zc) (ifs:List Expr) (f:FB):Prop:=Bx fun tm=>GH X ifs (lB X Z tm f)
noncomputable instance {X:Cx} {Z:Zc} {ifs:List Expr} {f:FB}:CoeFun (Q_ X Z ifs f) fun _=>∀ tm,GH X ifs (lB X Z tm f):=⟨fun h=>Bx.h h⟩
noncomputable def vn:FB:=fun _ Q=>Q true
theorem GH.weak {X:Cx} {e:List Expr} {t t':TT} (h:GH X e t) (hw:∀ σ H Q,t' σ H Q→t σ H Q):GH X e t':=fun pins s σ H Q I q=>h pins s σ H Q I (hw _ _ _ q)
section
variable {X:Cx} {Z:Zc}
theorem di:Q_ X Z [] vn:=.mk fun tm=>GH.weak HB fun σ H Q ⟨ρ,O,q,I,h,k⟩=>k true h H (aX.refl H)
noncomputable def cG (X:Cx) (Z:Zc) (tm:List (T×V)) (is:List Nat) (h:FG):TG:=fun v σ H Q=>∃ D bN,lG X (Z.ex D) (bN ++ tm) is h v σ H Q
noncomputable def cB (X:Cx) (Z:Zc) (tm:List (T×V)) (f:FB):TT:=fun σ H Q=>∃ D bN,lB X (Z.ex D) (bN ++ tm) f σ H Q
noncomputable def cE (X:Cx) (Z:Zc) (tm:List (T×V)) (f:FE):TE:=fun σ H Q=>∃ D bN,lE X (Z.ex D) (bN ++ tm) f σ H Q
theorem MJ {K:PySem.W.Frag} {Z:Zc} {tm bN:List (T×V)} {n:Nat} {O:List (Option Addr)} {ρ:En} {σ:St} {H1:Hp} {D:Addr} {J:It} {ts:List T} {h:FG} {fc:FB} {fe:FE} {is:List Nat} {q:Rt→Prop} {Q:VK} (X:Cx) (hK:X.K=K)
  (I:aw K Z (bN ++ tm) O ρ σ H1) (hD:H1 D=none) (wk:Wk K J bN ts) (hz:ts.length≤sizeLine) (Vs:∀ j∈is,ρ.length≤j)
  (hw:cH h fc fe (ρ ++ List.replicate n none) ts fun us=>q (.fr (.lst us)))
  (k:∀ r,q r→∀ v H',aX H1 H'→gU K Z tm O ρ σ H' r v→Q v H') :
  Dk J (cG X Z tm is h) (cB X Z tm fc) (cE X Z tm fe) n σ D (Q (.ref D)) H1:=by
 subst hK
 obtain ⟨n1,n2,n3⟩:=I.fresh hD
 refine ⟨fun i m acc H2=>m=ts.length - i∧i≤ts.length∧aX H1 H2∧H2 D=some (.lst acc)∧∃ us,aA X.K H2 (av (Z.ex D) O) us acc∧acc.length≤i∧aw X.K (Z.ex D) (bN ++ tm) O ρ σ H2∧cH h fc fe (ρ ++ List.replicate n none) (ts.drop i) fun r=>q (.fr (.lst (us ++ r))),
  ⟨ts.length,by simp,qe _,aU hD,a_,[],aA.nil,qe _,I.new hD rfl,by simpa using hw⟩,?_⟩
 rintro i m acc H2 ⟨rfl,hi,s2,Vt,us,a2,hl,I2,w2⟩
 refine ⟨Vt,?_⟩
 obtain ⟨w1,w2',w3⟩:=wk H2 (av (Z.ex D) O) I2.Km (fun p hp=>I2.qf p (jR _ hp)) i
 by_cases gz:i < ts.length
 · refine .inr ⟨w1 gz,by omega,fun x H3 y=>?_⟩
   have e:ts[i]?=some ts[i]:=by simp [gz]
   obtain ⟨s3,a3⟩:=w3 ts[i] e x H3 y
   rw [V9 gz] at w2
   have I3:=(I2.same s3).longer n (τ:=List.replicate n none) (by simp)
   have ea:av (Z.ex D) (O ++ List.replicate n none)=av (Z.ex D) O:=by unfold av; rw [d9]
   refine ⟨D,bN,_,_,ts[i],_,I3,by rw [ea]; exact a3,w2,fun ρ4 hρ4 O4 σ4 I4 ro4 eo4 l4 e4=>⟨⟨?_,fun j v hj=>?_⟩,D,bN,ρ4,O4,_,I4,hρ4,fun b hb H5 s5=>?_⟩⟩
   · rw [l4]; simp
   · have Pf:=(cn.mp hj).1
     have:j∉is:=fun z=>by have:=Vs j z; have:=I.lσ; omega
     rw [e4 j this,oq Pf]; exact hj
   · have S5:=(s2.trans s3).trans s5
     have J5:=(I2.same s3).same s5
     cases b with
     | true =>
       rw [if_pos rfl] at hb
       refine QR ⟨D,bN,ρ4,O4,_,I4.same s5,hb,fun u hu y H6 s6 a6=>?_⟩
       have XH:=s6 _ _ (s5 _ _ (s3 _ _ Vt))
       refine ⟨XH,ts.length - (i+1),by omega,rfl,gz,fun b o e=>?_,a_,us ++ [u],?_,by simp; omega,(J5.same s6).MI XH rfl n3,?_⟩
       · rw [aW (bh e hD)]; exact s6 _ _ (S5 _ _ e)
       · have HJ:D∈av (Z.ex D) O:=jW _ iw
         have a6':At X.K H6 (av (Z.ex D) O) u y:=a6.bo fun b hb=>by
          rcases g_.mp hb with z | z
          · obtain ⟨j,hj⟩:=CH.mp (aQ.mp z)
            have Pf:=(cn.mp hj).1
            have nj:j∉is:=fun z=>by have:=Vs j z; have:=I.lO; omega
            have:=eo4 j nj
            rw [oq Pf,hj] at this
            exact jR _ (aQ.mpr (j7 this))
          · exact jW _ z
         exact aA.wrote HJ XH rfl ((((a2.same s3).same s5).same s6).append (aA.cons a6' aA.nil))
       · have e2:∀ r,(us ++ [u]) ++ r=us ++ (u :: r):=fun r=>by simp
         simp only [e2]
         exact hu
     | false =>
       rw [if_neg c7] at hb
       exact QQ ⟨ts.length - (i+1),by omega,rfl,gz,S5,s5 _ _ (s3 _ _ Vt),us,(a2.same s3).same s5,by omega,J5,hb⟩
 · have e:i=ts.length:=by omega
   subst e
   refine .inl ⟨w2' (rfl),?_⟩
   rw [List.drop_length] at w2
   simp only [cH,xw] at w2
   refine k _ w2 _ H2 s2 ⟨D,rfl,I2.vk fun p hp=>I2.qf p (jW _ hp),⟨acc,Vt,a2⟩,n3,n2⟩
theorem zK {tm:List (T×V)} {n:Nat} {is:List Nat} {f:FI} {h:FG} {fc:FB} {fe:FE} {σ:St} {H:Hp} {Q:VK} (hq:lP X Z tm (zJ n is f h fc fe) σ H Q):Dl n (lI X Z tm f) (cG X Z tm is h) (cB X Z tm fc) (cE X Z tm fe) σ H Q:=by
 obtain ⟨ρ,O,q,I,⟨Vs,hf⟩,k⟩:=hq
 refine ⟨ρ,O,_,I,hf,fun ts fj J H' bN s a wk D hD=>?_⟩
 have I':aw X.K Z (bN ++ tm) O ρ σ H':=(I.same s).vk fun p hp=>by
  rcases g_.mp hp with z | z
  · exact a p z
  · exact (I.same s).qf p z
 refine MJ X rfl I' hD wk fj.1 (fun j hj=>?_) fj.2 fun r hr v H2 s2 z=>k r hr v H2 (s.trans s2) z
 have:=G0.mp Vs j hj
 exact of_decide_eq_true this
variable {ts:List Str} {sc:Scope} {elt iter tg:Expr} {ifs:List Expr} {pos:Pos} {f:FI} {h:FG} {fc:FB} {fe:FE} {is:List Nat}
theorem dN (hc:X.calm=true) (hS:ka X.N ts X.env.scope sc=true) (hi:VI X Z tg iter f) (hg:∀ D cl C fp s H,VG (bt X ts sc cl C fp s H) (Z.ex D) tg is h) (ht:∀ D cl C fp s H,Q_ (bt X ts sc cl C fp s H) (Z.ex D) ifs fc)
  (he:∀ D cl C fp s H,VE (bt X ts sc cl C fp s H) (Z.ex D) elt fe) (hs:∀ x,foldedSetIterable iter X.env x=pure x:=by intro _; rfl):VP X Z (.ListComp elt [⟨tg,iter,ifs,0⟩] sc pos) (zJ ts.length is f h fc fe):=.mk fun tm =>
 PE.weak (HE hc hS (hi tm) (fun cl C fp s H pins s' σ H' v u Q I r ⟨D,bN,z⟩=>hg D cl C fp s H (bN ++ tm) pins s' σ H' v u Q I r z) (fun cl C fp s H pins s' σ H' Q I ⟨D,bN,z⟩=>ht D cl C fp s H (bN ++ tm) pins s' σ H' Q I z)
  (fun cl C fp s H pins s' σ H' Q I ⟨D,bN,z⟩=>he D cl C fp s H (bN ++ tm) pins s' σ H' Q I z) hs) fun σ H Q hq=>zK hq
theorem vo {i:Nat} {y:Str} {py vd:Pos} (hN:X.N.Nodup) (hy:X.N[i]?=some y) (hx:Loc X.env.scope y) (hc:X.calm=true) (hS:ka X.N ts X.env.scope sc=true) (hi:VI X Z tg iter f) (hg:∀ D cl C fp s H,VG (bt X ts sc cl C fp s H) (Z.ex D) tg is h)
  (ht:∀ D cl C fp s H,Q_ (bt X ts sc cl C fp s H) (Z.ex D) ifs fc) (he:∀ D cl C fp s H,VE (bt X ts sc cl C fp s H) (Z.ex D) elt fe)
  (QW:swapsWith (.ListComp elt [⟨tg,iter,ifs,0⟩] sc pos) (some (.Name y py)) vd.line X.env=pure true)
  (hs:∀ x,foldedSetIterable iter X.env x=pure x) (hf:X.fn y=true∨X.env.scope.names.lookup y=some .local) (tm:List (T×V)) :
  PS X (.Assign [.Name y py] (.ListComp elt [⟨tg,iter,ifs,0⟩] sc pos) vd) (He (lP X Z tm (zJ ts.length is f h fc fe)) (jf i)) :=
 PS.weak (HF hN hy hx hc hS (hi tm) (fun cl C fp s H pins s' σ H' v u Q I r ⟨D,bN,z⟩=>hg D cl C fp s H (bN ++ tm) pins s' σ H' v u Q I r z) (fun cl C fp s H pins s' σ H' Q I ⟨D,bN,z⟩=>ht D cl C fp s H (bN ++ tm) pins s' σ H' Q I z)
  (fun cl C fp s H pins s' σ H' Q I ⟨D,bN,z⟩=>he D cl C fp s H (bN ++ tm) pins s' σ H' Q I z) QW hs hf) fun D σ H hq=>zK hq
theorem Ih {i:Nat} {y:Str} {py vd:Pos} (hN:X.N.Nodup) (hy:X.N[i]?=some y) (hx:Loc X.env.scope y) (hc:X.calm=true) (hS:ka X.N ts X.env.scope sc=true) (hi:VI X Z tg iter f) (hg:∀ D cl C fp s H,VG (bt X ts sc cl C fp s H) (Z.ex D) tg is h)
  (ht:∀ D cl C fp s H,Q_ (bt X ts sc cl C fp s H) (Z.ex D) ifs fc) (he:∀ D cl C fp s H,VE (bt X ts sc cl C fp s H) (Z.ex D) elt fe) (hp:a9 Z i)
  (QW:swapsWith (.ListComp elt [⟨tg,iter,ifs,0⟩] sc pos) (some (.Name y py)) vd.line X.env=pure true:=by rfl)
  (hs:∀ x,foldedSetIterable iter X.env x=pure x:=by intro _; rfl) (hf:X.fn y=true∨X.env.scope.names.lookup y=some .local:=by first | exact .inl rfl | exact .inr rfl | assumption) :
  VS X Z (.Assign [.Name y py] (.ListComp elt [⟨tg,iter,ifs,0⟩] sc pos) vd) (Q6 i (fX (zJ ts.length is f h fc fe))):=.mk fun tm =>
 PS.weak (vo hN hy hx hc hS hi hg ht he QW hs hf tm) fun D σ H ⟨ρ,O,d,I,q,F⟩=>⟨ρ,O,_,I,q,fun r hr v H' s z=>F.nx _ _ _ H' (z.env.put hp z.at) hr⟩
theorem mh {h:FG} {fc:FB} {fe:FE} {ρ:En} {ts:List T} {Q:List T→Prop} (p:T→Bool) (u:T→T) (step:∀ t∈ts,∀ k:List T→Prop,∀ r:List T→Prop,(if p t=true then r [u t] else r [])→h t ρ fun ρ2=>fc ρ2 fun b=>if b=true then fe ρ2 fun x=>r [x] else r [])
  (hq:Q ((ts.filter p).map u)):cH h fc fe ρ ts Q:=by
 induction ts generalizing Q with
 | nil=>exact hq
 | cons t ts ih =>
   have st:=step t iw (fun _=>True) (fun l=>match l with
    | [x]=>cH h fc fe ρ ts fun us=>Q (x :: us)
    | _=>cH h fc fe ρ ts Q)
   have rest:∀ {Q':List T→Prop},Q' ((ts.filter p).map u)→cH h fc fe ρ ts Q':=fun hq=>ih (fun t ht=>step t (jc _ ht)) hq
   simp only [cH]
   refine st ?_
   by_cases hp:p t=true
   · rw [if_pos hp]
     refine rest ?_
     rw [List.filter_cons_of_pos hp] at hq
     exact hq
   · rw [if_neg hp]
     refine rest ?_
     rw [List.filter_cons_of_neg hp] at hq
     exact hq
end
noncomputable def gY (K:PySem.W.Frag) (H:Hp) (A:List Addr):List Bool→List Addr→List T→List V→Prop
 | [],as,ts,vs=>as=[]∧ts=[]∧vs=[]
 | false :: fs,as,ts,vs=>∃ t kg v kz,ts=t :: kg∧vs=v :: kz∧At K H A t v∧gY K H A fs as kg kz
 | true :: fs,as,ts,vs=>∃ a rJ t kg kz,as=a :: rJ∧ts=t :: kg∧vs = .ref a :: kz∧cC K H A a t∧gY K H A fs rJ kg kz
noncomputable def XI (K:PySem.W.Frag) (H:Hp) (as Ox:List Addr) (H':Hp) (us:List T):Rt→V→Prop
 | .vw t,v=>At K H' (as ++ Ox) t v∧Paired (fun a u=>cC K H' (as ++ Ox) a u) as us
 | .fr t,v=>∃ b,v = .ref b∧H b=none∧b∉as∧cC K H' (b :: (as ++ Ox)) b t∧Paired (fun a u=>cC K H' (b :: (as ++ Ox)) a u) as us
noncomputable abbrev GT:=List T→(List T→Rt→Prop)→Prop
noncomputable def sR (K:PySem.W.Frag) (fs:List Bool) (G:GT):Sp:=fun vs H Q _=>∃ ts as Ox q,as.Nodup∧(∀ a∈as,a∉Ox)∧(∀ a∈Ox,H a≠none)∧gY K H (as ++ Ox) fs as ts vs∧G ts q ∧
 ∀ us r,q us r→∀ v H',(∀ b o,H b=some o→b∉as→H' b=some o)→XI K H as Ox H' us r v→Q v H'
noncomputable def ro:List Bool→List Addr→List (Option Addr)
 | [],_=>[]
 | false :: fs,as=>none :: ro fs as
 | true :: fs,a :: as=>some a :: ro fs as
 | true :: fs,[]=>none :: ro fs []
noncomputable def pz:List Bool→List Addr→Nat→List (Nat×Addr)
 | [],_,_=>[]
 | false :: fs,as,k=>pz fs as (k+1)
 | true :: fs,a :: as,k=>(k,a) :: pz fs as (k+1)
 | true :: fs,[],k=>pz fs [] (k+1)
noncomputable def xC:List Bool→List T→En
 | f :: fs,t :: ts=>some (t,f) :: xC fs ts
 | _,_=>[]
noncomputable def nM:List Bool→En→List T
 | [],_=>[]
 | false :: fs,ρ=>nM fs ρ.tail
 | true :: fs,some (t,_) :: ρ=>t :: nM fs ρ
 | true :: fs,ρ=>.bb :: nM fs ρ.tail
section
variable {K:PySem.W.Frag} {H:Hp} {A:List Addr}
theorem kQ:∀ {fs:List Bool} {as:List Addr} {ts:List T} {vs:List V},gY K H A fs as ts vs→ts.length=fs.length∧vs.length=fs.length∧(ro fs as).length=fs.length∧(xC fs ts).length=fs.length∧roots (ro fs as)=as
 | [],as,ts,vs,h=>by obtain ⟨rfl,rfl,rfl⟩:=h; exact ⟨rfl,rfl,rfl,rfl,rfl⟩
 | false :: fs,as,ts,vs,h=>by
   obtain ⟨t,kg,v,kz,rfl,rfl,_,h⟩:=h
   obtain ⟨h1,h2,h3,h4,h5⟩:=kQ h
   exact ⟨by simp [h1],by simp [h2],by simp [ro,h3],by simp [xC,h4],by simpa [ro,roots] using h5⟩
 | true :: fs,as,ts,vs,h=>by
   obtain ⟨a,rJ,t,kg,kz,rfl,rfl,rfl,_,h⟩:=h
   obtain ⟨h1,h2,h3,h4,h5⟩:=kQ h
   refine ⟨by simp [h1],by simp [h2],by simp [ro,h3],by simp [xC,h4],?_⟩
   simp only [ro,roots,nX,id] at h5 ⊢
   rw [h5]
theorem oN:∀ {fs:List Bool} {as:List Addr} {ts:List T} {vs:List V},gY K H A fs as ts vs→∀ (i:Nat) e,(xC fs ts)[i]?=some e→∃ o s,(ro fs as)[i]?=some o∧(vs.map some)[i]?=some s∧oE K H A e o s
 | [],as,ts,vs,h,i,e,he=>by simp [xC] at he
 | false :: fs,as,ts,vs,h,i,e,he=>by
   obtain ⟨t,kg,v,kz,rfl,rfl,a,h⟩:=h
   cases i with
   | zero=>simp only [xC,Wa,Option.some.injEq] at he; subst he; exact ⟨none,some v,rfl,rfl,rfl,v,rfl,a⟩
   | succ i=>exact oN h i e (by simpa [xC] using he)
 | true :: fs,as,ts,vs,h,i,e,he=>by
   obtain ⟨a,rJ,t,kg,kz,rfl,rfl,rfl,r,h⟩:=h
   cases i with
   | zero=>simp only [xC,Wa,Option.some.injEq] at he; subst he; exact ⟨some a,some (.ref a),rfl,rfl,a,rfl,rfl,r⟩
   | succ i=>exact oN h i e (by simpa [xC] using he)
theorem mi:∀ {fs:List Bool} {as:List Addr} {ts:List T} {vs:List V},gY K H A fs as ts vs→∀ a∈as,∃ t,cC K H A a t
 | [],as,ts,vs,h,a,ha=>by obtain ⟨rfl,rfl,rfl⟩:=h; cases ha
 | false :: fs,as,ts,vs,h,a,ha=>by obtain ⟨t,kg,v,kz,rfl,rfl,_,h⟩:=h; exact mi h a ha
 | true :: fs,as,ts,vs,h,a,ha=>by
   obtain ⟨b,rJ,t,kg,kz,rfl,rfl,rfl,r,h⟩:=h
   rcases cZ.mp ha with z | z
   · subst z; exact ⟨t,r⟩
   · exact mi h a z
theorem DE:∀ {fs:List Bool} {as:List Addr} {ts:List T} {vs:List V} (k:Nat),gY K H A fs as ts vs→(pz fs as k).map (·.2)=as∧∀ p∈pz fs as k,k≤p.1∧(ro fs as)[p.1 - k]?=some (some p.2)
 | [],as,ts,vs,k,h=>by obtain ⟨rfl,rfl,rfl⟩:=h; exact ⟨rfl,fun _ z=>nomatch z⟩
 | false :: fs,as,ts,vs,k,h=>by
   obtain ⟨t,kg,v,kz,rfl,rfl,_,h⟩:=h
   obtain ⟨h1,h2⟩:=DE (k+1) h
   refine ⟨h1,fun p hp=>?_⟩
   obtain ⟨l,e⟩:=h2 p hp
   refine ⟨by omega,?_⟩
   have:p.1 - k=(p.1 - (k+1))+1:=by omega
   rw [this]
   simpa [ro] using e
 | true :: fs,as,ts,vs,k,h=>by
   obtain ⟨a,rJ,t,kg,kz,rfl,rfl,rfl,_,h⟩:=h
   obtain ⟨h1,h2⟩:=DE (k+1) h
   refine ⟨by simp [pz,h1],fun p hp=>?_⟩
   rcases cZ.mp hp with z | z
   · subst z; exact ⟨cA _,by simp [ro]⟩
   · obtain ⟨l,e⟩:=h2 p z
     refine ⟨by omega,?_⟩
     have:p.1 - k=(p.1 - (k+1))+1:=by omega
     rw [this]
     simpa [ro] using e
theorem sS {R:Addr→T→Prop} {ρ:En}:∀ {fs:List Bool} {as:List Addr} {ts:List T} {vs:List V} (k:Nat),gY K H A fs as ts vs→(∀ p∈pz fs as k,∃ t,ρ[p.1]?=some (some (t,true))∧R p.2 t)→Paired R as (nM fs (ρ.drop k))
 | [],as,ts,vs,k,h,_=>by obtain ⟨rfl,rfl,rfl⟩:=h; exact .nil
 | false :: fs,as,ts,vs,k,h,q=>by
   obtain ⟨t,kg,v,kz,rfl,rfl,_,h⟩:=h
   have:=sS (k+1) h q
   simp only [nM,List.tail_drop]
   exact this
 | true :: fs,as,ts,vs,k,h,q=>by
   obtain ⟨a,rJ,t,kg,kz,rfl,rfl,rfl,_,h⟩:=h
   have:=sS (ρ:=ρ) (k+1) h fun p hp=>q p (jc _ hp)
   obtain ⟨u,e,r⟩:=q (k,a) iw
   have hk:k < ρ.length:=(cn.mp e).1
   have e2:ρ[k]=some (u,true):=by rw [fD hk] at e; exact Option.some.inj e
   rw [V9 hk,e2]
   exact .cons r this
end
section
variable {P:Program} {w:World} {K:PySem.W.Frag} {mg:Str→Option Value} {base:Heap}
theorem Vu {x qual:Str} {st:Stmt} {f:Addr} {fd:FuncData} {N ps:List Str} {k:Nat} {fs:List Bool} {G:GT} (F:Di K x qual st f fd) (S:aN N ps (ak st)) (XJ:fs.length=ps.length)
  (jh:∀ (bO:Value) (A:Around) (outer:List Env) (s:Shared) (H:Hp) (E:XK) (as Ox:List Addr),bA k (A.deeper (envOfC qual (ak st) s.heap.objs.size f bO))→∀ ts q,ts.length=fs.length→G ts q →
    ∃ g,nL (iA jk P w K mg base N qual (ak st) f bO A outer s H E).uW ⟨H,pz fs as 0,Ox⟩ (cQ st) g∧g { nx:=fun ρ=>q (nM fs ρ) (.vw .bb),rt:=fun ρ r=>q (nM fs ρ) r } (xC fs ts ++ List.replicate (N.length - ts.length) none)) :
  d0 P w K mg base jk (k+1) f fd ps (sR K fs G):=by
 refine F.ok S (fun vs H Q E h=>?_) (fun bO A outer s H vs Q E hr h=>?_)
 · obtain ⟨ts,as,Ox,q,_,_,_,ha,_⟩:=h
   rw [← XJ]; exact (kQ ha).2.1
 · obtain ⟨ts,as,Ox,q,nd,nx,ox,ha,hG,kk⟩:=h
   obtain ⟨l1,l2,l3,l4,l5⟩:=kQ ha
   obtain ⟨p1,p2⟩:=DE 0 ha
   obtain ⟨g,hg,hq⟩:=jh bO A outer s H E as Ox hr ts q l1 hG
   have ea:av ⟨H,pz fs as 0,Ox⟩ (ro fs as ++ List.replicate (N.length - ts.length) none)=as ++ Ox:=by unfold av; rw [d9,l5]
   have acy:∀ H0 P (O:List (Option Addr)),av ⟨H0,P,Ox⟩ O=roots O ++ Ox:=fun _ _ _=>rfl
   have I0:aw K ⟨H,pz fs as 0,Ox⟩ [] (ro fs as ++ List.replicate (N.length - ts.length) none) (xC fs ts ++ List.replicate (N.length - ts.length) none) (start N vs) H:=by
    refine ⟨?_,?_,fun i e he=>?_,by rw [d9,l5]; exact nd,fun a h=>?_,fun p hp=>?_,ox,fun b o e _=>e,fun p hp=>nomatch hp⟩
    · unfold L2.start; simp [l2,l4,l1]
    · simp [l3,l4]
    · rw [ea]
      by_cases hi:i < fs.length
      · rw [oq (by rw [l4]; exact hi)] at he
        obtain ⟨o,s,h1,h2,h3⟩:=oN ha i e he
        refine ⟨o,s,by rw [oq (by rw [l3]; exact hi)]; exact h1,?_,h3⟩
        unfold L2.start
        rw [oq (by rw [b_,l2]; exact hi)]; exact h2
      · rw [List.getElem?_append_right (by omega),Av] at he
        split at he
        · rename_i hl
          cases he
          refine ⟨none,none,?_,?_,rfl⟩
          · rw [sA (by omega),Av,if_pos (by rw [l3]; rw [l4] at hl; exact hl)]
          · unfold L2.start
            rw [sA (by rw [b_]; omega),Av,b_,if_pos (by rw [l2]; rw [l4,l1] at hl; exact hl)]
        · cases he
    · rw [d9,l5] at h
      obtain ⟨t,r⟩:=mi ha a h
      exact ⟨.inl (by show a∈(pz fs as 0).map (·.2); rw [p1]; exact h),nx a h,r.mut⟩
    · obtain ⟨_,e⟩:=p2 p hp
      rw [Nat.sub_zero] at e
      rw [oq (cn.mp e).1]; exact e
   have fin:∀ {O:List (Option Addr)} {ρ:En} {σ:St} {H':Hp} {Z':Zc},Z'.P=pz fs as 0→aw K Z' [] O ρ σ H'→Paired (fun a u=>cC K H' (av Z' O) a u) as (nM fs ρ):=fun {O ρ σ H' Z'} eP I=>by
    have:=sS (ρ:=ρ) (R:=fun a u=>cC K H' (av Z' O) a u) 0 ha fun p hp=>?_
    · rw [List.drop_zero] at this; exact this
    · have e:=I.par p (by rw [eP]; exact hp)
      have hl:=(cn.mp e).1
      have Lw:p.1 < ρ.length:=by rw [← I.lO]; exact hl
      obtain ⟨o,s',h1,h2,h3⟩:=I.sl p.1 ρ[p.1] (by simp)
      rw [e] at h1
      cases h1
      cases q:ρ[p.1] with
      | none=>rw [q] at h3; cases h3
      | some tb =>
        obtain ⟨t,b⟩:=tb
        rw [q] at h3
        cases b with
        | false=>cases h3.1
        | true =>
          obtain ⟨a',e1,_,r⟩:=h3
          cases e1
          exact ⟨t,by rw [← q]; simp,r⟩
   have keep:∀ {O:List (Option Addr)} {ρ:En} {σ:St} {H':Hp} {Z':Zc},Z'.H0=H→Z'.P=pz fs as 0→aw K Z' [] O ρ σ H'→∀ b o,H b=some o→b∉as→H' b=some o:=fun e0 eP I b o e n=>I.keep b o (by rw [e0]; exact e) (by rw [eP,p1]; exact n)
   have sub:∀ {O:List (Option Addr)} {ρ:En} {σ:St} {H':Hp} {Z':Zc},Z'.P=pz fs as 0→aw K Z' [] O ρ σ H'→∀ a∈as,a∈roots O:=fun eP I a h=>by
    have:a∈(pz fs as 0).map (·.2):=by rw [p1]; exact h
    obtain ⟨p,hp,rfl⟩:=uO.mp this
    exact aQ.mpr (j7 (I.par p (by rw [eP]; exact hp)))
   refine ⟨_,hg [],_,_,_,I0,hq,⟨fun O ρ σ H' I h=>?_,fun O ρ σ H' r v z h=>?_,fun _ _ _ _ _ h=>h.elim,fun _ _ _ _ _ h=>h.elim⟩⟩
   · have sb:∀ a∈as ++ Ox,a∈av ⟨H,pz fs as 0,Ox⟩ O:=fun a h=>by
      rcases g_.mp h with h | h
      · exact jR _ (sub rfl I a h)
      · exact jW _ h
     exact kk _ _ h .bb H' (keep rfl rfl I) ⟨md,Paired.oy (fin rfl I) fun _ _ q=>q.bo sb⟩
   · cases r with
     | vw t =>
       obtain ⟨I,a⟩:=z
       have sb:∀ a∈as ++ Ox,a∈av ⟨H,pz fs as 0,Ox⟩ O:=fun a h=>by
        rcases g_.mp h with h | h
        · exact jR _ (sub rfl I a h)
        · exact jW _ h
       exact kk _ _ h v H' (keep rfl rfl I) ⟨a.bo sb,Paired.oy (fin rfl I) fun _ _ q=>q.bo sb⟩
     | fr t =>
       obtain ⟨b,rfl,I,hR,h0,hx⟩:=z
       have sb:∀ a∈b :: (as ++ Ox),a∈av (Zc.ex ⟨H,pz fs as 0,Ox⟩ b) O:=fun a h=>by
        rcases cZ.mp h with h | h
        · rw [h]; exact jW _ iw
        · rcases g_.mp h with h | h
          · exact jR _ (sub rfl I a h)
          · exact jW _ (jc _ h)
       exact kk _ _ h (.ref b) H' (keep rfl rfl I) ⟨b,rfl,h0,fun hb=>(I.own b (sub rfl I b hb)).2.1 iw,hR.bo sb,Paired.oy (fin rfl I) fun _ _ q=>q.bo sb⟩
end
noncomputable def bQ (K:PySem.W.Frag) (n:Nat) (G:List T→(Rt→Prop)→Prop):Sp:=sR K (List.replicate n false) fun ts q=>G ts (q [])
section
variable {K:PySem.W.Frag} {H:Hp} {A:List Addr}
theorem gb:∀ {n:Nat} {ts:List T} {vs:List V},ts.length=n→aA K H A ts vs→gY K H A (List.replicate n false) [] ts vs
 | 0,ts,vs,l,h=>by
   have e:ts=[]:=Cn.mp l
   subst e
   simp only [aA] at h
   exact ⟨rfl,rfl,h⟩
 | n+1,ts,vs,l,h=>by
   cases ts with
   | nil=>simp at l
   | cons t ts =>
     simp only [aA] at h
     obtain ⟨v,r,rfl,h1,h2⟩:=h
     exact ⟨t,ts,v,r,rfl,rfl,h1,gb (by simpa using l) h2⟩
end
theorem aw.DF {K:PySem.W.Frag} {Z:Zc} {tm:List (T×V)} {O:List (Option Addr)} {ρ:En} {σ:St} {H H':Hp} (I:aw K Z tm O ρ σ H) {a:Addr} (h:H a=none) (s:aX H H') {u:HO} (hu:H' a=some u):aw K (Z.ex a) tm O ρ σ H':=by
 have J:=I.same s
 obtain ⟨n1,n2,n3⟩:=I.fresh h
 have mr:∀ b∈av (Z.ex a) O,b∈av Z O∨H b=none:=fun b hb=>(cR b hb).imp id fun e=>by rw [e]; exact h
 have fw:∀ {t:T} {v:V},At K H (av Z O) t v→At K H' (av (Z.ex a) O) t v:=fun q=>(q.more mr).same s
 refine ⟨J.lσ,J.lO,fun i e hi=>?_,J.nd,fun b hb=>?_,J.par,fun b hb=>?_,J.keep,fun p hp=>fw (I.qf p hp)⟩
 · obtain ⟨o,w,h1,h2,h3⟩:=I.sl i e hi
   refine ⟨o,w,h1,h2,h3.map (fun _ _ q=>fw q) fun b t eo q=>?_⟩
   exact cC.same (q.map rfl fun _ _ z=>z.more mr) s
 · obtain ⟨q1,q2,q3⟩:=J.own b hb
   refine ⟨q1,fun z=>?_,q3⟩
   rcases cZ.mp z with z | z
   · exact n1 (by rw [← z]; exact jR _ hb)
   · exact q2 z
 · rcases cZ.mp hb with z | z
   · rw [z,hu]; simp
   · exact J.ox b z
noncomputable def MK (n:Nat) (g:FA) (G:List T→(Rt→Prop)→Prop):FP:=fun ρ Q=>g ρ fun ts=>ts.length=n∧G ts Q
noncomputable def MM:Rt→Bool
 | .vw t=>ma t
 | .fr (.lst ts)=>qu ts
 | _=>false
noncomputable def MN (n:Nat) (g:FA) (G:List T→(Rt→Prop)→Prop):FP:=fun ρ Q=>g ρ fun ts=>ts.length=n∧G ts fun r=>MM r=true∧Q r
section
variable {X:Cx} {Z:Zc} {k n:Nat} {f:Addr} {fd:FuncData} {ps:List Str} {G:List T→(Rt→Prop)→Prop} {x:Str} {p pos:Pos} {e:Expr} {es:List Expr} {g:FA}
theorem zL {tm:List (T×V)} {O:List (Option Addr)} {ρ:En} {σ:St} {H:Hp} {ts:List T} {vs:List V} {q:Rt→Prop} {Q:VK} (I:aw X.K Z tm O ρ σ H) (a:aA X.K H (av Z O) ts vs) (hn:ts.length=n) (hG:G ts q)
  (k:∀ r,q r→∀ v H',aX H H'→gU X.K Z tm O ρ σ H' r v→Q v H'):bQ X.K n G (vs ++ []) H Q E0:=by
 rw [xw]
 refine ⟨ts,[],av Z O,fun _ r=>q r,OZ,fun _ z=>absurd z fG,I.Km,gb hn a,hG,fun us r hr v H' fr z=>?_⟩
 have s:aX H H':=fun b o e=>fr b o e fG
 cases r with
 | vw t=>exact k _ hr v H' s ⟨I.same s,z.1⟩
 | fr t =>
   obtain ⟨b,rfl,hb,_,hR,_⟩:=z
   obtain ⟨n1,n2,n3⟩:=I.fresh hb
   obtain ⟨u,eu,_⟩:=hR.mut
   refine k _ hr _ H' s ⟨b,rfl,I.DF hb s eu,hR.bo fun c hc=>?_,n3,n2⟩
   rcases cR c hc with z | z
   · exact jc _ z
   · rw [z]; exact iw
theorem aK (F:d0 X.prog X.w X.K X.mg X.base jk k f fd ps (bQ X.K n G)) (hr:bA k X.A) (hg:Gl X x) (hm:X.mg x=some (.ref f)) (hk:PySem.W.keepIn X.K (.ref f)=true) (hb:Binds X.K fd ps []) (ha:VA X Z (e :: es) g)
  (qj:(x == ("__debug__" : Str))=false:=by decide) (he:starEach (e :: es) X.env=(false,eval e X.env) :: starEach es X.env:=by rfl) (jg:(backTo pos (starEach es X.env)).any (·.1)=false:=by rfl) :
  VP X Z (.Call (.Name x p) (e :: es) [] pos) (MK n g G):=.mk fun tm=>PE.weak (nZ F hr hg hm hk hb .nil rE (ha tm) qj he jg) fun σ H Q ⟨ρ,O,q,I,hf,k⟩ =>
 ⟨ρ,O,_,I,hf,fun ts fj vs H1 s1 a1=>zL (I.same s1) a1 fj.1 fj.2 fun r hr v H' s z=>k r hr v H' (s1.trans s) z⟩
theorem hX (F:d0 X.prog X.w X.K X.mg X.base jk k f fd ps (bQ X.K n G)) (hr:bA k X.A) (hg:Gl X x) (hm:X.mg x=some (.ref f)) (hk:PySem.W.keepIn X.K (.ref f)=true) (hb:Binds X.K fd ps []) (ha:HK X Z (e :: es) g)
  (qj:(x == ("__debug__" : Str))=false:=by decide) (he:starEach (e :: es) X.env=(false,eval e X.env) :: starEach es X.env:=by rfl) (jg:(backTo pos (starEach es X.env)).any (·.1)=false:=by rfl) :
  VP X Z (.Call (.Name x p) (e :: es) [] pos) (MN n g G):=.mk fun tm=>PE.weak (nZ F hr hg hm hk hb .nil rE (ha tm) qj he jg) fun σ H Q ⟨ρ,O,q,I,hf,k⟩ =>
 ⟨ρ,O,_,I,hf,fun ts fj vs H1 s1 a1=>by
   show bQ X.K n G (vs ++ []) H1 Q E0
   rw [xw]
   have J:=I.same s1
   have a2:aA X.K H1 [] ts vs:=aA.iff.mpr (Paired.oy a1 fun _ _ z=>z.bare)
   refine ⟨ts,[],[],fun _ r=>MM r=true∧q r,OZ,fun _ z=>absurd z fG,fun _ z=>absurd z fG,gb fj.1 a2,fj.2,fun us r ⟨hi,hr⟩ v H' fr z=>?_⟩
   have s:aX H1 H':=fun b o e=>fr b o e fG
   cases r with
   | vw t=>exact k _ hr v H' (s1.trans s) ⟨J.same s,At.ma hi z.1⟩
   | fr t =>
     obtain ⟨b,rfl,hb,_,hR,_⟩:=z
     obtain ⟨n1,n2,n3⟩:=J.fresh hb
     obtain ⟨u,eu,_⟩:=hR.mut
     cases t with
     | lst ts =>
       obtain ⟨ws,e1,e2⟩:=hR
       exact k _ hr _ H' (s1.trans s) ⟨b,rfl,J.DF hb s eu,⟨ws,e1,aA.ma hi e2⟩,n3,n2⟩
     | _=>exact absurd hi (by simp [MM])⟩
end
noncomputable def AM (K:PySem.W.Frag) (H:Hp) (A:List Addr) (O:List (Option Addr)) (ρ:En):List (Option Nat)→List T→List V→Prop
 | [],ts,vs=>ts=[]∧vs=[]
 | none :: ms,ts,vs=>∃ t kg v kz,ts=t :: kg∧vs=v :: kz∧At K H A t v∧AM K H A O ρ ms kg kz
 | some k :: ms,ts,vs=>∃ a t kg kz,ts=t :: kg∧vs = .ref a :: kz∧ρ[k]?=some (some (t,true))∧O[k]?=some (some a)∧AM K H A O ρ ms kg kz
noncomputable def Z5 (X:Cx) (Z:Zc) (tm:List (T×V)) (ms:List (Option Nat)) (f:FA):TA:=fun σ H Q=>∃ ρ O q,aw X.K Z tm O ρ σ H∧f ρ q∧∀ ts,q ts→∀ vs H',aX H H'→AM X.K H' (av Z O) O ρ ms ts vs→Q vs H'
noncomputable def MQ (X:Cx) (Z:Zc) (es:List Expr) (ms:List (Option Nat)) (f:FA):Prop:=Bx fun tm=>PA X es (Z5 X Z tm ms f)
noncomputable instance {X:Cx} {Z:Zc} {es:List Expr} {ms:List (Option Nat)} {f:FA}:CoeFun (MQ X Z es ms f) fun _=>∀ tm,PA X es (Z5 X Z tm ms f):=⟨fun h=>Bx.h h⟩
noncomputable def DG (i:Nat):FE:=fun ρ Q=>match ρ[i]? with
 | some (some (t,true))=>Q t
 | _=>False
section
variable {X:Cx} {Z:Zc} {e:Expr} {es:List Expr} {g:FA}
theorem zM:MQ X Z [] [] A1:=.mk fun tm=>PA.weak d6 fun σ H Q ⟨ρ,O,q,I,hf,k⟩=>k _ hf [] H (aX.refl H) ⟨rfl,rfl⟩
theorem kR {ms:List (Option Nat)} {f:FE} (h:VE X Z e f) (h':MQ X Z es ms g) (hs:starEach (e :: es) X.env=(false,eval e X.env) :: starEach es X.env:=by rfl):MQ X Z (e :: es) (none :: ms) (oH f g) :=
 .mk fun tm=>PA.weak (bS (h tm) (h' tm) hs) fun σ H Q ⟨ρ,O,q,I,hf,k⟩=>⟨ρ,O,_,I,hf,fun t ht v H1 s1 a1=>⟨ρ,O,_,I.same s1,ht,fun ts fj vs H2 s2 a2=>k _ fj _ H2 (s1.trans s2) ⟨t,ts,v,vs,rfl,rfl,a1.same s2,a2⟩⟩⟩
theorem sT (j:Nat) {ms:List (Option Nat)} {y:Str} {py:Pos} (h':MQ X Z es ms g) (hN:X.N[j]?=some y:=by rfl) (hv:xA X.env.scope y:=by first | exact Or.inl rfl | exact Or.inr (Or.inl rfl) | exact Or.inr (Or.inr rfl)) (hd:(y == ("__debug__" : Str))=false:=by decide)
  (j8:(y == ("__classdict__" : Str))=false:=by decide) (hs:starEach (.Name y py :: es) X.env=(false,eval (.Name y py) X.env) :: starEach es X.env:=by rfl):MQ X Z (.Name y py :: es) (some j :: ms) (oH (DG j) g) :=
 .mk fun tm=>PA.weak (bS (fm hN hv hd j8) (h' tm) hs) fun σ H Q ⟨ρ,O,q,I,hf,k⟩=>by
  have Vv:DG j ρ fun t=>g ρ fun ts=>q (t :: ts):=hf
  unfold DG at Vv
  split at Vv
  · rename_i t e0
    obtain ⟨a,h1,h2,h3⟩:=I.root e0
    exact ⟨.ref a,h2,ρ,O,_,I,Vv,fun ts fj vs H2 s2 a2=>k _ fj _ H2 s2 ⟨a,t,ts,vs,rfl,rfl,e0,h1,a2⟩⟩
  · exact Vv.elim
end
noncomputable def putK:List Nat→List T→En→En
 | k :: ks,u :: us,ρ=>putK ks us (ρ.set k (some (u,true)))
 | _,_,ρ=>ρ
theorem oO:∀ (ks:List Nat) (us:List T) (ρ:En),(putK ks us ρ).length=ρ.length
 | [],_,_=>rfl
 | _ :: _,[],_=>rfl
 | k :: ks,u :: us,ρ=>by rw [putK,oO]; simp
theorem vq:∀ {ks:List Nat} {us:List T} {ρ:En} {i:Nat} {e:Option (T×Bool)},ks.Nodup→ks.length=us.length→(putK ks us ρ)[i]?=some e→(i∉ks∧ρ[i]?=some e)∨∃ (j:Nat) (u:T),ks[j]?=some i∧us[j]?=some u∧e=some (u,true)
 | [],us,ρ,i,e,_,_,h=>.inl ⟨fG,h⟩
 | k :: ks,[],ρ,i,e,_,l,h=>by simp at l
 | k :: ks,u :: us,ρ,i,e,nd,l,h=>by
   rw [ow] at nd
   rcases vq nd.2 (by simpa using l) (show (putK ks us (ρ.set k (some (u,true))))[i]?=some e from h) with ⟨h1,h2⟩ | ⟨j,u',h1,h2,h3⟩
   · rcases get_set h2 with ⟨rfl,rfl,_⟩ | ⟨ne,h2⟩
     · exact .inr ⟨0,u,rfl,rfl,rfl⟩
     · exact .inl ⟨fun z=>by rcases cZ.mp z with z | z; exact ne z; exact h1 z,h2⟩
   · exact .inr ⟨j+1,u',by simpa using h1,by simpa using h2,h3⟩
section
variable {K:PySem.W.Frag} {H H':Hp} {A:List Addr}
theorem At.MR {as:List Addr} {t:T} {v:V} (fr:∀ b o,H b=some o→b∉as→H' b=some o) (sub:∀ a∈as,a∈A) (mu:∀ a∈as,∃ u,H a=some u∧vf u=true) (h:At K H A t v):At K H' A t v:=by
 refine At.map (fun b vs q=>?_) (fun b vs q=>?_) (fun b bg q=>?_) h
 · rcases q with q | q
   · refine .inl ⟨?_,q.2⟩
     have nb:b∉as:=fun z=>q.2 (sub b z)
     rcases q.1 with z | ⟨o',z⟩
     · exact .inl (fr _ _ z nb)
     · exact .inr ⟨o',fr _ _ z nb⟩
   · exact .inr q
 · rcases q with z | z
   · refine .inl ?_
     have nb:b∉as:=fun m=>by
      obtain ⟨u,eu,mu⟩:=mu b m
      rcases z with z | ⟨o',z⟩
      · rw [z] at eu; cases eu; cases mu
      · rw [z] at eu; cases eu; cases mu
     rcases z with z | ⟨o',z⟩
     · exact .inl (fr _ _ z nb)
     · exact .inr ⟨o',fr _ _ z nb⟩
   · exact .inr z
 · exact ⟨fr _ _ q.1 fun z=>q.2 (sub b z),q.2⟩
theorem AM.args {A':List Addr} {O:List (Option Addr)} {ρ:En} (sub:∀ a∈A',a∈A) (hr:∀ (k:Nat) t,ρ[k]?=some (some (t,true))→∃ a,O[k]?=some (some a)∧cC K H A a t):∀ {ms:List (Option Nat)} {ts:List T} {vs:List V},AM K H A O ρ ms ts vs →
  ∃ as,gY K H A' (ms.map Option.isSome) as ts vs∧Paired (fun a k=>O[k]?=some (some a)) as (ms.filterMap id)
 | [],ts,vs,h=>⟨[],⟨rfl,h.1,h.2⟩,.nil⟩
 | none :: ms,ts,vs,h=>by
   obtain ⟨t,kg,v,kz,rfl,rfl,a,h⟩:=h
   obtain ⟨as,h1,h2⟩:=AM.args sub hr h
   exact ⟨as,⟨t,kg,v,kz,rfl,rfl,a.bo sub,h1⟩,h2⟩
 | some k :: ms,ts,vs,h=>by
   obtain ⟨a,t,kg,kz,rfl,rfl,e0,e1,h⟩:=h
   obtain ⟨as,h1,h2⟩:=AM.args sub hr h
   obtain ⟨a',e2,r⟩:=hr k t e0
   rw [e1] at e2
   cases e2
   exact ⟨a :: as,⟨a,as,t,kg,kz,rfl,rfl,rfl,r.bo sub,h1⟩,.cons e1 h2⟩
end
noncomputable def MS (ms:List (Option Nat)) (g:FA) (G:GT):FX:=fun ρ Q=>g ρ fun ts=>G ts fun us r=>Q (putK (ms.filterMap id) us ρ) r
section
variable {X:Cx} {Z:Zc} {k:Nat} {f:Addr} {fd:FuncData} {ps:List Str} {fs:List Bool} {G:GT} {x:Str} {p pos:Pos} {e:Expr} {es:List Expr} {g:FA} {ms:List (Option Nat)}
theorem DH {K:PySem.W.Frag} {tm:List (T×V)} {O:List (Option Addr)} {ρ:En} {σ:St} {H:Hp} (I:aw K Z tm O ρ σ H) {i j:Nat} {a:Addr} (h1:O[i]?=some (some a)) (h2:O[j]?=some (some a)):i=j:=by
 have key:∀ (O:List (Option Addr)) (i j:Nat),i < j→O[i]?=some (some a)→O[j]?=some (some a)→(roots O).Nodup→False:=by
  intro O
  induction O with
  | nil=>intro i j _ h; simp at h
  | cons o O ih =>
    intro i j Vp e1 e2 nd
    cases j with
    | zero=>omega
    | succ j =>
      have GG:O[j]?=some (some a):=by simpa using e2
      cases i with
      | zero =>
        have:o=some a:=by simpa using e1
        subst this
        simp only [roots,nX,id] at nd
        exact (ow.mp nd).1 (aQ.mpr (j7 GG))
      | succ i =>
        refine ih i j (by omega) (by simpa using e1) GG ?_
        cases o with
        | none=>simpa [roots] using nd
        | some b=>simp only [roots,nX,id] at nd; exact (ow.mp nd).2
 rcases OT i j with l | l | l
 · exact (key O i j l h1 h2 I.nd).elim
 · exact l
 · exact (key O j i l h2 h1 I.nd).elim
theorem gc {α β:Type} {F:α→β→Prop}:∀ {l₁:List α} {l₂:List β} {a:α},Paired F l₁ l₂→a∈l₁→∃ b∈l₂,F a b
 | _,_,_,.nil,h=>nomatch h
 | _,_,a,.cons r t,h=>by
   rcases cZ.mp h with z | z
   · subst z; exact ⟨_,iw,r⟩
   · obtain ⟨b,h1,h2⟩:=gc t z; exact ⟨b,jc _ h1,h2⟩
theorem oP {α β:Type} {F:α→β→Prop}:∀ {l₁:List α} {l₂:List β} {i:Nat} {b:β},Paired F l₁ l₂→l₂[i]?=some b→∃ a,l₁[i]?=some a∧F a b
 | _,_,_,_,.nil,e=>by simp at e
 | _,_,0,_,.cons r _,e=>by simp at e; subst e; exact ⟨_,rfl,r⟩
 | _,_,i+1,b,.cons _ t,e=>by
   obtain ⟨a,h1,h2⟩:=oP (i:=i) (b:=b) t (by simpa using e)
   exact ⟨a,by simpa using h1,h2⟩
theorem jq {α β:Type} {F:α→β→Prop}:∀ {l₁:List α} {l₂:List β} {i:Nat} {a:α},Paired F l₁ l₂→l₁[i]?=some a→∃ b,l₂[i]?=some b∧F a b
 | _,_,_,_,.nil,e=>by simp at e
 | _,_,0,_,.cons r _,e=>by simp at e; subst e; exact ⟨_,rfl,r⟩
 | _,_,i+1,b,.cons _ t,e=>by
   obtain ⟨a,h1,h2⟩:=jq (i:=i) (a:=b) t (by simpa using e)
   exact ⟨a,by simpa using h1,h2⟩
theorem aw.called {K:PySem.W.Frag} {Z':Zc} {tm:List (T×V)} {O:List (Option Addr)} {ρ:En} {σ:St} {H H':Hp} {as:List Addr} {ks:List Nat} {us:List T} (I:aw K Z tm O ρ σ H) (hk:Paired (fun a k=>O[k]?=some (some a)) as ks) (nk:ks.Nodup)
  (fr:∀ b o,H b=some o→b∉as→H' b=some o) (hu:Paired (fun a u=>cC K H' (av Z' O) a u) as us)
  (hZ:Z'.H0=Z.H0) (hP:Z'.P=Z.P) (Z6:∀ a∈Z'.Ox,a∉roots O∧H' a≠none) (more:∀ a∈av Z' O,a∈av Z O∨H a=none):aw K Z' tm O (putK ks us ρ) σ H':=by
 have yg:∀ a∈as,a∈roots O:=fun a h=>by obtain ⟨k,_,e⟩:=gc hk h; exact aQ.mpr (j7 e)
 have sub:∀ a∈as,a∈av Z O:=fun a h=>jR _ (yg a h)
 have XM:∀ a∈as,a∈av Z' O:=fun a h=>jR _ (yg a h)
 have mu:∀ a∈as,∃ u,H a=some u∧vf u=true:=fun a h=>(I.own a (yg a h)).2.2
 have fw:∀ {t:T} {v:V},At K H (av Z O) t v→At K H' (av Z' O) t v:=fun q=>(q.more more).MR fr XM mu
 have fwL:∀ {t:List T} {v:List V},aA K H (av Z O) t v→aA K H' (av Z' O) t v:=fun q=>aA.iff.mpr (Paired.oy (aA.iff.mp q) fun _ _ z=>fw z)
 refine ⟨by rw [oO]; exact I.lσ,by rw [oO]; exact I.lO,fun i e h=>?_,I.nd,fun b hb=>?_,by rw [hP]; exact I.par,fun a ha=>(Z6 a ha).2,fun b o e n=>?_,fun p hp=>fw (I.qf p hp)⟩
 · rcases vq nk (by rw [← O0 hk,O0 hu]) h with ⟨h1,h2⟩ | ⟨j,u,h1,h2,rfl⟩
   · obtain ⟨o,s,g1,g2,g3⟩:=I.sl i e h2
     refine ⟨o,s,g1,g2,g3.map (fun _ _ q=>fw q) fun b t eo q=>?_⟩
     subst eo
     have nb:b∉as:=fun m=>by
      obtain ⟨k,Ii,MT⟩:=gc hk m
      exact h1 (by rw [DH I g1 MT]; exact Ii)
     obtain ⟨u,eu,_⟩:=q.mut
     exact q.map (by rw [eu]; exact fr _ _ eu nb) fun _ _ z=>fwL z
   · obtain ⟨a,ha,r⟩:=oP hu h2
     obtain ⟨k,Ii,MT⟩:=jq hk ha
     rw [h1] at Ii
     cases Ii
     have hl:i < ρ.length:=by rw [← I.lO]; exact (cn.mp MT).1
     obtain ⟨o,s,g1,g2,g3⟩:=I.sl i ρ[i] (by simp)
     rw [MT] at g1
     cases g1
     refine ⟨some a,s,MT,g2,a,rfl,?_,r⟩
     cases q:ρ[i] with
     | none=>rw [q] at g3; cases g3
     | some tb =>
       obtain ⟨t,b⟩:=tb
       rw [q] at g3
       cases b with
       | false=>cases g3.1
       | true=>obtain ⟨a',e1,e2,_⟩:=g3; cases e1; exact e2
 · obtain ⟨q1,q2,v,e,m⟩:=I.own b hb
   refine ⟨by rw [hZ,hP]; exact q1,fun z=>(Z6 b z).1 hb,?_⟩
   by_cases Z7:b∈as
   · obtain ⟨j,hj⟩:=CH.mp Z7
     obtain ⟨u,_,r⟩:=jq hu hj
     exact r.mut
   · exact ⟨v,fr _ _ e Z7,m⟩
 · rw [hZ] at e
   rw [hP] at n
   refine fr _ _ (I.keep b o e n) fun m=>?_
   rcases (I.own b (yg b m)).1 with z | z
   · exact n z
   · rw [z] at e; cases e
theorem vt (F:d0 X.prog X.w X.K X.mg X.base jk k f fd ps (sR X.K fs G)) (hr:bA k X.A) (hg:Gl X x) (hm:X.mg x=some (.ref f)) (hk:PySem.W.keepIn X.K (.ref f)=true) (hb:Binds X.K fd ps []) (ha:MQ X Z (e :: es) ms g)
  (XJ:ms.map Option.isSome=fs:=by rfl) (Pg:(ms.filterMap id).Nodup:=by decide)
  (qj:(x == ("__debug__" : Str))=false:=by decide) (he:starEach (e :: es) X.env=(false,eval e X.env) :: starEach es X.env:=by rfl) (jg:(backTo pos (starEach es X.env)).any (·.1)=false:=by rfl) :
  VX X Z (.Call (.Name x p) (e :: es) [] pos) (MS ms g G):=.mk fun tm=>PE.weak (nZ F hr hg hm hk hb .nil rE (ha tm) qj he jg) fun σ H Q ⟨ρ,O,q,I,hf,k⟩ =>
 ⟨ρ,O,_,I,hf,fun ts fj vs H1 s1 a1=>by
   subst XJ
   show sR X.K _ G (vs ++ []) H1 Q E0
   rw [xw]
   have J:=I.same s1
   obtain ⟨as,h1,h2⟩:=AM.args (A':=av Z O) (fun _ z=>z) (fun k t e=>by obtain ⟨a,q1,q2,q3⟩:=J.root e; exact ⟨a,q1,q3⟩) a1
   have yg:∀ a∈as,a∈roots O:=fun a h=>by obtain ⟨k,_,e⟩:=gc h2 h; exact aQ.mpr (j7 e)
   have ndA:as.Nodup:=by
    clear h1
    have:∀ {as:List Addr} {ks:List Nat},ks.Nodup→Paired (fun a k=>O[k]?=some (some a)) as ks→as.Nodup:=by
     intro as ks nd h
     induction h with
     | nil=>exact OZ
     | cons r t ih =>
       rw [ow] at nd ⊢
       refine ⟨fun m=>?_,ih nd.2⟩
       obtain ⟨k',m1,m2⟩:=gc t m
       exact nd.1 (by rw [DH J r m2]; exact m1)
    exact this Pg h2
   have Vw:∀ b,b∈as ++ (av Z O).filter (fun b=>decide (b∉as))↔b∈av Z O:=fun b=>by
    rw [g_,PV]
    constructor
    · rintro (z | z)
      · exact jR _ (yg b z)
      · exact z.1
    · intro z
      by_cases hb:b∈as
      · exact .inl hb
      · exact .inr ⟨z,decide_eq_true hb⟩
   obtain ⟨rJ,GK,MU⟩:=AM.args (A':=as ++ (av Z O).filter (fun b=>decide (b∉as))) (fun b z=>(Vw b).mp z) (fun k t e=>by obtain ⟨a,q1,q2,q3⟩:=J.root e; exact ⟨a,q1,q3⟩) a1
   have ee:rJ=as:=by
    have:∀ {as rJ:List Addr} {ks:List Nat},Paired (fun a k=>O[k]?=some (some a)) as ks→Paired (fun a k=>O[k]?=some (some a)) rJ ks→rJ=as:=by
     intro as rJ ks h h'
     induction h generalizing rJ with
     | nil=>cases h'; rfl
     | cons r t ih =>
       cases h' with
       | cons r' t' =>
         rw [r] at r'
         cases r'
         rw [ih t']
    exact this h2 MU
   subst ee
   refine ⟨ts,rJ,(av Z O).filter (fun b=>decide (b∉rJ)),_,ndA,fun a h z=>?_,fun a h=>J.Km a (PV.mp h).1,GK,fj,fun us r hr v H' fr z=>?_⟩
   · exact (of_decide_eq_true (PV.mp z).2) h
   have Ra:∀ a∈Z.Ox,a∉roots O∧H' a≠none:=fun a h=>by
    have na:a∉roots O:=fun m=>(J.own a m).2.1 h
    refine ⟨na,?_⟩
    cases e:H1 a with
    | none=>exact absurd e (J.ox a h)
    | some u=>rw [fr _ _ e fun m=>na (yg a m)]; simp
   cases r with
   | vw t =>
     obtain ⟨z1,z2⟩:=z
     exact k _ _ hr O v H' ⟨J.called h2 Pg fr (Paired.oy z2 fun _ _ q=>q.bo fun b hb=>(Vw b).mpr hb) rfl rfl Ra fun a h=>.inl h,z1.bo fun b hb=>(Vw b).mpr hb⟩
   | fr t =>
     obtain ⟨b,rfl,hb,nb,hR,z2⟩:=z
     obtain ⟨n1,n2,n3⟩:=J.fresh hb
     have sb:∀ c∈av (Z.ex b) O,c∈b :: (rJ ++ (av Z O).filter (fun b=>decide (b∉rJ))):=fun c hc=>by
      rcases cR c hc with z | z
      · exact jc _ ((Vw c).mpr z)
      · rw [z]; exact iw
     refine k _ _ hr O _ H' ⟨b,rfl,J.called h2 Pg fr (Paired.oy z2 fun _ _ q=>q.bo sb) rfl rfl (fun a h=>?_) (fun a h=>(cR a h).imp id fun e=>by rw [e]; exact hb),hR.bo sb,n3,n2⟩
     rcases cZ.mp h with z | z
     · subst z
       obtain ⟨u,eu,_⟩:=hR.mut
       exact ⟨fun m=>n1 (jR _ m),by rw [eu]; simp⟩
     · exact Ra a z⟩
end
section
variable (K:PySem.W.Frag)
theorem vv:PySem.W.kitOne K (.type "int") (.type "int")=some true:=by kernel_rfl
theorem sU:PySem.W.kitOne K (.type "int") (.type "bool")=some false:=by kernel_rfl
theorem vy:PySem.W.kitOne K (.type "int") (.type "str")=some false:=by kernel_rfl
theorem qw:PySem.W.kitOne K (.type "int") (.type "tuple")=some false:=by kernel_rfl
theorem sV:PySem.W.kitOne K (.type "bool") (.type "int")=some true:=by kernel_rfl
theorem qx:PySem.W.kitOne K (.type "bool") (.type "bool")=some true:=by kernel_rfl
theorem sW:PySem.W.kitOne K (.type "bool") (.type "str")=some false:=by kernel_rfl
theorem oQ:PySem.W.kitOne K (.type "bool") (.type "tuple")=some false:=by kernel_rfl
theorem vz:PySem.W.kitOne K (.type "str") (.type "int")=some false:=by kernel_rfl
theorem sX:PySem.W.kitOne K (.type "str") (.type "bool")=some false:=by kernel_rfl
theorem vA:PySem.W.kitOne K (.type "str") (.type "str")=some true:=by kernel_rfl
theorem qy:PySem.W.kitOne K (.type "str") (.type "tuple")=some false:=by kernel_rfl
theorem sY:PySem.W.kitOne K (.type "list") (.type "int")=some false:=by kernel_rfl
theorem qz:PySem.W.kitOne K (.type "list") (.type "bool")=some false:=by kernel_rfl
theorem sZ:PySem.W.kitOne K (.type "list") (.type "str")=some false:=by kernel_rfl
theorem oR:PySem.W.kitOne K (.type "list") (.type "tuple")=some false:=by kernel_rfl
theorem qA:PySem.W.kitOne K (.type "tuple") (.type "int")=some false:=by kernel_rfl
theorem oS:PySem.W.kitOne K (.type "tuple") (.type "bool")=some false:=by kernel_rfl
theorem qB:PySem.W.kitOne K (.type "tuple") (.type "str")=some false:=by kernel_rfl
theorem nN:PySem.W.kitOne K (.type "tuple") (.type "tuple")=some true:=by kernel_rfl
theorem s_:PySem.W.kitOne K (.type "dict") (.type "int")=some false:=by kernel_rfl
theorem qC:PySem.W.kitOne K (.type "dict") (.type "bool")=some false:=by kernel_rfl
theorem tf:PySem.W.kitOne K (.type "dict") (.type "str")=some false:=by kernel_rfl
theorem oU:PySem.W.kitOne K (.type "dict") (.type "tuple")=some false:=by kernel_rfl
theorem mj:PySem.W.kitOne K (.type "NoneType") (.type "int")=some false:=by kernel_rfl
theorem kS:PySem.W.kitOne K (.type "NoneType") (.type "bool")=some false:=by kernel_rfl
theorem ml:PySem.W.kitOne K (.type "NoneType") (.type "str")=some false:=by kernel_rfl
theorem kh:PySem.W.kitOne K (.type "NoneType") (.type "tuple")=some false:=by kernel_rfl
end
noncomputable def Z8 (K:PySem.W.Frag) (H:Hp):V→String→Prop
 | .bb,t=>t="NoneType"
 | .bl _,t=>t="bool"
 | .int _,t=>t="int"
 | .str _,t=>t="str"
 | .ref a,t=>(t="list"∧∃ xs,gy K H a xs)∨(t="tuple"∧∃ xs,dZ K H a xs)∨(t="dict"∧∃ bg,H a=some (.dK bg))
 | _,_=>False
noncomputable def Rb (K:PySem.W.Frag):List V→Hp→VK→Prop:=fun xs H Q=>∃ x n t b,xs=[x,.ty n]∧Z8 K H x t∧PySem.W.kitOne K (.type t) (.type n)=some b∧Q (.bl b) H
theorem A3 {X:Cx}:c8 X (.builtin "isinstance") (Rb X.K):=by
 intro pins s σ H xs us Q I r h
 obtain ⟨x,n,t,b,rfl,ty,e,q⟩:=h
 obtain ⟨u,w',rfl,rx,ry⟩:=vals2 r
 obtain rfl:w'=Value.type n:=ry
 have fin:∀ tk,EP X pins σ Q (.bool b) { s with toks:=tk }:=fun tk=>⟨.bl b,H,I.tok _,rfl,q⟩
 cases x with
 | bb=>cases (show t=_ from ty); cases (show u=Value.none from rx); exact Lm PySem.W.kitx_none I.rj True.intro e (fun z=>nomatch z) fin
 | bl y=>cases (show t=_ from ty); cases (show u=Value.bool y from rx); exact Lm PySem.W.kitx_bool I.rj True.intro e (fun z=>nomatch z) fin
 | int i=>cases (show t=_ from ty); obtain ⟨t,q⟩:=(show ∃ t,u=Value.int i t from rx); cases q; exact Lm PySem.W.kitx_int I.rj True.intro e (fun z=>nomatch z) fin
 | str y=>cases (show t=_ from ty); obtain ⟨t,q⟩:=(show ∃ t,u=Value.str y t from rx); cases q; exact Lm PySem.W.kitx_str I.rj True.intro e (fun z=>nomatch z) fin
 | ref a =>
   cases (show u=Value.ref a from rx)
   rcases ty with ⟨rfl,xs,hq⟩ | ⟨rfl,xs,hq⟩ | ⟨rfl,bg,hq⟩
   · obtain ⟨aP,_,p,_⟩:=I.list hq
     obtain ⟨o,n',h1,h2,_⟩:=p
     exact Lm PySem.W.kitx_list I.rj ⟨o,h1,h2⟩ e (fun z=>nomatch z) fin
   · obtain ⟨aP,_,p,_⟩:=I.tuple hq
     obtain ⟨o,h1,h2,_⟩:=p
     exact Lm PySem.W.kitx_tuple I.rj ⟨o,h1,h2⟩ e (fun z=>nomatch z) fin
   · obtain ⟨_,_,vs,_,p⟩:=(show bX X.prog X.w H s.heap a (.dK bg) from I.bV a _ hq)
     obtain ⟨o,es,ep,h1,h2,_⟩:=p
     exact Lm PySem.W.kitx_dict I.rj ⟨o,h1,h2.1⟩ e (fun z=>nomatch z) fin
 | _=>exact (show False from ty).elim
noncomputable def isInt:T→Bool
 | .int _=>true
 | .bl _=>true
 | _=>false
noncomputable def isBool:T→Bool
 | .bl _=>true
 | _=>false
noncomputable def isStr:T→Bool
 | .str _=>true
 | _=>false
noncomputable def isList:T→Bool
 | .lst _=>true
 | _=>false
noncomputable def Ij:T→Bool
 | .tup _=>true
 | _=>false
noncomputable def known:T→Bool
 | .dt _ _=>false
 | .df _ _ _=>false
 | .dz _ _ _=>false
 | .kt _=>false
 | .ins _ _ _=>false
 | .pin _ _=>false
 | .ob _=>false
 | .ty _=>false
 | _=>true
noncomputable def oV (K:PySem.W.Frag) (n:String) (p:T→Bool):Prop:=∀ H A t v,known t=true→iy K H A t v→∃ ty,Z8 K H v ty∧PySem.W.kitOne K (.type ty) (.type n)=some (p t)
theorem DI {K:PySem.W.Frag}:oV K "int" isInt:=by
 intro H A t v hk h
 cases t with
 | bb=>rw [h.bb]; exact ⟨_,rfl,mj K⟩
 | bl b=>rw [h.bl]; exact ⟨_,rfl,sV K⟩
 | int b=>rw [h.int]; exact ⟨_,rfl,vv K⟩
 | str b=>rw [h.str]; exact ⟨_,rfl,vz K⟩
 | tup l=>obtain ⟨a,vs,rfl,q,_⟩:=h.tup; exact ⟨_,.inr (.inl ⟨rfl,_,q⟩),qA K⟩
 | lst l=>obtain ⟨a,vs,rfl,q,_⟩:=h.lst; exact ⟨_,.inl ⟨rfl,_,q⟩,sY K⟩
 | dk ks l=>obtain ⟨a,vs,rfl,_,q,_⟩:=h.dk; exact ⟨_,.inr (.inr ⟨rfl,_,q⟩),s_ K⟩
 | _=>simp only [known] at hk; cases hk
theorem A4 {K:PySem.W.Frag}:oV K "bool" isBool:=by
 intro H A t v hk h
 cases t with
 | bb=>rw [h.bb]; exact ⟨_,rfl,kS K⟩
 | bl b=>rw [h.bl]; exact ⟨_,rfl,qx K⟩
 | int b=>rw [h.int]; exact ⟨_,rfl,sU K⟩
 | str b=>rw [h.str]; exact ⟨_,rfl,sX K⟩
 | tup l=>obtain ⟨a,vs,rfl,q,_⟩:=h.tup; exact ⟨_,.inr (.inl ⟨rfl,_,q⟩),oS K⟩
 | lst l=>obtain ⟨a,vs,rfl,q,_⟩:=h.lst; exact ⟨_,.inl ⟨rfl,_,q⟩,qz K⟩
 | dk ks l=>obtain ⟨a,vs,rfl,_,q,_⟩:=h.dk; exact ⟨_,.inr (.inr ⟨rfl,_,q⟩),qC K⟩
 | _=>simp only [known] at hk; cases hk
theorem oW {K:PySem.W.Frag}:oV K "str" isStr:=by
 intro H A t v hk h
 cases t with
 | bb=>rw [h.bb]; exact ⟨_,rfl,ml K⟩
 | bl b=>rw [h.bl]; exact ⟨_,rfl,sW K⟩
 | int b=>rw [h.int]; exact ⟨_,rfl,vy K⟩
 | str b=>rw [h.str]; exact ⟨_,rfl,vA K⟩
 | tup l=>obtain ⟨a,vs,rfl,q,_⟩:=h.tup; exact ⟨_,.inr (.inl ⟨rfl,_,q⟩),qB K⟩
 | lst l=>obtain ⟨a,vs,rfl,q,_⟩:=h.lst; exact ⟨_,.inl ⟨rfl,_,q⟩,sZ K⟩
 | dk ks l=>obtain ⟨a,vs,rfl,_,q,_⟩:=h.dk; exact ⟨_,.inr (.inr ⟨rfl,_,q⟩),tf K⟩
 | _=>simp only [known] at hk; cases hk
theorem oX {K:PySem.W.Frag}:oV K "tuple" Ij:=by
 intro H A t v hk h
 cases t with
 | bb=>rw [h.bb]; exact ⟨_,rfl,kh K⟩
 | bl b=>rw [h.bl]; exact ⟨_,rfl,oQ K⟩
 | int b=>rw [h.int]; exact ⟨_,rfl,qw K⟩
 | str b=>rw [h.str]; exact ⟨_,rfl,qy K⟩
 | tup l=>obtain ⟨a,vs,rfl,q,_⟩:=h.tup; exact ⟨_,.inr (.inl ⟨rfl,_,q⟩),nN K⟩
 | lst l=>obtain ⟨a,vs,rfl,q,_⟩:=h.lst; exact ⟨_,.inl ⟨rfl,_,q⟩,oR K⟩
 | dk ks l=>obtain ⟨a,vs,rfl,_,q,_⟩:=h.dk; exact ⟨_,.inr (.inr ⟨rfl,_,q⟩),oU K⟩
 | _=>simp only [known] at hk; cases hk
noncomputable def Rc (f:FE) (p:T→Bool):FP:=fun ρ Q=>f ρ fun t=>known t=true∧Q (.vw (.bl (p t)))
section
variable {X:Cx} {Z:Zc} {e a b c:Expr} {es:List Expr} {pos p p2:Pos} {fa fb Ph:FE}
theorem tq:bootBuiltins "isinstance" = some (.builtin "isinstance"):=by decide +kernel
theorem iJ {n:String} {y:Str} {q:T→Bool} (hq:oV X.K n q) (hg:Gl X "isinstance") (hm:X.mg "isinstance" = none) (hgy:Gl X y) (hmy:X.mg y=none) (hby:bootBuiltins y=some (.type n)) (ha:VR X Z e fa)
  (hny:y≠"__name__":=by decide) (hdy:(y == ("__debug__" : Str))=false:=by decide)
  (hs:starEach [e,.Name y p2] X.env=(false,eval e X.env) :: starEach [.Name y p2] X.env:=by rfl) (rn:starEach [.Name y p2] X.env=(false,eval (.Name y p2) X.env) :: starEach [] X.env:=by rfl) (jg:(backTo pos (starEach [.Name y p2] X.env)).any (·.1)=false:=by rfl) :
  VP X Z (.Call (.Name "isinstance" p) [e,.Name y p2] [] pos) (Rc fa q):=.mk fun tm =>
 PE.weak (kJ A3 hg hm tq (bS (ha tm) (bS (G9 (v:=.ty n) hgy hmy hby rfl hny hdy) d6 rn) hs) (by decide) (by decide) hs jg) fun σ H Q ⟨ρ,O,q',I,hf,k⟩=>⟨ρ,O,_,I,hf,fun t ht v H1 s1 a1=>by
  obtain ⟨ty,h1,h2⟩:=hq H1 _ t v ht.1 a1
  exact ⟨v,n,ty,_,rfl,h1,h2,k _ ht.2 _ H1 s1 ⟨I.same s1,c_⟩⟩⟩
noncomputable def gI:T→Bool
 | .bb=>true
 | .bl _=>true
 | .int _=>true
 | .str _=>true
 | _=>false
noncomputable def oY:List T→Bool
 | []=>true
 | t :: ts=>gI t && oY ts
noncomputable def vB (x:T):List T→Bool
 | []=>false
 | t :: ts=>eqT t x || vB x ts
theorem hY {K:PySem.W.Frag} {H:Hp} {A:List Addr}:∀ {ts:List T} {vs:List V} {x:T} {v:V},oY ts=true→gI x=true→aA K H A ts vs→At K H A x v→vs.all ji=true∧ji v=true∧Vh v vs=vB x ts
 | [],vs,x,v,_,fx,h,hx=>by
   simp only [aA] at h; subst h
   refine ⟨rfl,?_,rfl⟩
   cases x <;> simp only [At] at hx <;> first | (subst hx; rfl) | (simp only [gI] at fx; cases fx)
 | t :: ts,vs,x,v,f,fx,h,hx=>by
   simp only [aA] at h
   obtain ⟨u,r,rfl,h1,h2⟩:=h
   simp only [oY,kB] at f
   obtain ⟨i1,i2,i3⟩:=hY f.2 fx h2 hx
   have ft:ji u=true:=by
    cases t <;> simp only [At] at h1 <;> first | (subst h1; rfl) | (have:=f.1; simp only [gI] at this; cases this)
   have e:GD u v=eqT t x:=by
    cases t <;> simp only [At] at h1 <;> first
     | (have:=f.1; simp only [gI] at this; cases this; done)
     | (subst h1
        cases x <;> simp only [At] at hx <;> first
         | (simp only [gI] at fx; cases fx; done)
         | (subst hx; simp [GD,eqT]; done))
   refine ⟨by simp [ft,i1],i2,?_⟩
   simp only [vB,Vh,O3]
   rw [e]
   congr 1
noncomputable def DJ (K:PySem.W.Frag) (neg:Bool):R2:=fun x y H Q=>WV K neg x y H Q∨∃ i j,x = .str i∧y = .str j∧Q (.bl (if neg then !(!(Builtin.Str.occurrences j i 0 j.length 1).isEmpty) else !(Builtin.Str.occurrences j i 0 j.length 1).isEmpty)) H
theorem yh:eY X (compareOp .In) (DJ X.K false):=by
 intro pins s σ H x y v u Q I rx ry h
 rcases h with h | ⟨i,j,h1,h2,h⟩
 · exact AQ pins s σ H x y v u Q I rx ry h
 · exact AI pins s σ H x y v u Q I rx ry ⟨i,j,h1,h2,by simpa using h⟩
theorem A5:eY X (compareOp .NotIn) (DJ X.K true):=by
 intro pins s σ H x y v u Q I rx ry h
 rcases h with h | ⟨i,j,h1,h2,h⟩
 · exact sI pins s σ H x y v u Q I rx ry h
 · exact sJ pins s σ H x y v u Q I rx ry ⟨i,j,h1,h2,by simpa using h⟩
noncomputable def zN (i j:Str):Bool:=!(Builtin.Str.occurrences j i 0 j.length 1).isEmpty
noncomputable def Rf (x y:T) (q:Rt→Prop):Prop:=match y with
 | .lst ts=>gI x=true∧oY ts=true∧q (.vw (.bl (vB x ts)))
 | .tup ts=>gI x=true∧oY ts=true∧q (.vw (.bl (vB x ts)))
 | .str j=>∃ i,x = .str i∧q (.vw (.bl (zN i j)))
 | _=>False
noncomputable def MV (x y:T) (q:Rt→Prop):Prop:=match y with
 | .lst ts=>gI x=true∧oY ts=true∧q (.vw (.bl (!vB x ts)))
 | .tup ts=>gI x=true∧oY ts=true∧q (.vw (.bl (!vB x ts)))
 | .str j=>∃ i,x = .str i∧q (.vw (.bl (!zN i j)))
 | _=>False
theorem yi {K:PySem.W.Frag}:oF K (DJ K false) Rf:=by
 intro Z tm O ρ σ H x y v w q Q I h1 h2 h k
 have x1:gI x=true→At K H (av Z O) x v:=fun f=>by
  rcases h1 with h | ⟨a,rfl,h⟩
  · exact h
  · cases x <;> first | exact h.elim | (simp only [gI] at f; cases f)
 unfold Rf at h
 split at h
 · obtain ⟨f1,f2,h⟩:=h
   obtain ⟨a,vs,rfl,q1,q2⟩:=h2.lst
   obtain ⟨i1,i2,i3⟩:=hY f2 f1 q2 (x1 f1)
   exact .inl ⟨a,vs,rfl,.inl q1,i2,i1,k _ h _ H (aX.refl H) ⟨I,by rw [if_neg c7,i3]; exact c_⟩⟩
 · obtain ⟨f1,f2,h⟩:=h
   obtain ⟨a,vs,rfl,q1,q2⟩:=h2.tup
   obtain ⟨i1,i2,i3⟩:=hY f2 f1 q2 (x1 f1)
   exact .inl ⟨a,vs,rfl,.inr q1,i2,i1,k _ h _ H (aX.refl H) ⟨I,by rw [if_neg c7,i3]; exact c_⟩⟩
 · obtain ⟨i,rfl,h⟩:=h
   exact .inr ⟨i,_,h1.str,h2.str,k _ h _ H (aX.refl H) ⟨I,by rw [if_neg c7]; exact c_⟩⟩
 · exact h.elim
theorem Ik {K:PySem.W.Frag}:oF K (DJ K true) MV:=by
 intro Z tm O ρ σ H x y v w q Q I h1 h2 h k
 have x1:gI x=true→At K H (av Z O) x v:=fun f=>by
  rcases h1 with h | ⟨a,rfl,h⟩
  · exact h
  · cases x <;> first | exact h.elim | (simp only [gI] at f; cases f)
 unfold MV at h
 split at h
 · obtain ⟨f1,f2,h⟩:=h
   obtain ⟨a,vs,rfl,q1,q2⟩:=h2.lst
   obtain ⟨i1,i2,i3⟩:=hY f2 f1 q2 (x1 f1)
   exact .inl ⟨a,vs,rfl,.inl q1,i2,i1,k _ h _ H (aX.refl H) ⟨I,by rw [if_pos rfl,i3]; exact c_⟩⟩
 · obtain ⟨f1,f2,h⟩:=h
   obtain ⟨a,vs,rfl,q1,q2⟩:=h2.tup
   obtain ⟨i1,i2,i3⟩:=hY f2 f1 q2 (x1 f1)
   exact .inl ⟨a,vs,rfl,.inr q1,i2,i1,k _ h _ H (aX.refl H) ⟨I,by rw [if_pos rfl,i3]; exact c_⟩⟩
 · obtain ⟨i,rfl,h⟩:=h
   exact .inr ⟨i,_,h1.str,h2.str,k _ h _ H (aX.refl H) ⟨I,by rw [if_pos rfl]; exact c_⟩⟩
 · exact h.elim
theorem Kz (ha:VR X Z a fa) (hb:VR X Z b fb) (hm:behindInMarks .In b=false:=by rfl):VP X Z (.Compare a [.In] [b] pos) (f2 fa fb Rf):=sO yh yi ha hb hm
theorem vC (ha:VR X Z a fa) (hb:VR X Z b fb) (hm:behindInMarks .In b=false:=by rfl):VC X Z (.Compare a [.In] [b] pos) (qv (f2 fa fb Rf)):=kb yh yi ha hb hm
theorem MW (ha:VR X Z a fa) (hb:VR X Z b fb) (hm:behindInMarks .NotIn b=false:=by rfl):VC X Z (.Compare a [.NotIn] [b] pos) (qv (f2 fa fb MV)):=kb A5 Ik ha hb hm
noncomputable def KA:T→Bool
 | .bb=>true
 | _=>false
noncomputable def XN (x y:T) (q:Rt→Prop):Prop:=match y with
 | .bb=>q (.vw (.bl (KA x)))
 | _=>False
theorem Il {K:PySem.W.Frag} {H:Hp} {A:List Addr} {t:T} {v:V} (h:iy K H A t v):decide (v = .bb)=KA t:=by
 cases t with
 | bb=>rw [h.bb]; rfl
 | bl b=>rw [h.bl]; rfl
 | int b=>rw [h.int]; rfl
 | str b=>rw [h.str]; rfl
 | ob b=>rw [h.ob]; rfl
 | ty b =>
   have:v = .ty b:=h.elim (fun q=>by simpa only [At] using q) fun ⟨_,_,q⟩=>q.elim
   rw [this]; rfl
 | tup l=>obtain ⟨a,vs,rfl,_⟩:=h.tup; rfl
 | lst l=>obtain ⟨a,vs,rfl,_⟩:=h.lst; rfl
 | dk ks l=>obtain ⟨a,vs,rfl,_⟩:=h.dk; rfl
 | dt ks l=>obtain ⟨a,vs,rfl,_⟩:=h.dt; rfl
 | df o ks l=>obtain ⟨a,vs,rfl,_⟩:=h.df; rfl
 | dz o ks l=>obtain ⟨a,vs,rfl,_⟩:=h.dz; rfl
 | kt k=>obtain ⟨a,rfl,_⟩:=h.kt; rfl
 | ins C ns l=>obtain ⟨a,dx,vs,rfl,_⟩:=h.ins; rfl
 | pin a t =>
   have e:v = .ref a:=h.elim (fun q=>by simp only [At] at q; exact q.1) fun ⟨_,_,q⟩=>q.elim
   rw [e]; rfl
theorem MX {K:PySem.W.Frag}:oF K (fun x y H Q=>y = .bb∧Q (.bl (decide (x = .bb))) H) XN:=by
 intro Z tm O ρ σ H x y v w q Q I h1 h2 h k
 unfold XN at h
 split at h
 · exact ⟨h2.bb,k _ h _ H (aX.refl H) ⟨I,by rw [Il h1]; exact c_⟩⟩
 · exact h.elim
theorem DK (ha:VR X Z a fa) (hb:VR X Z b fb):VC X Z (.Compare a [.Is] [b] pos) (qv (f2 fa fb XN)):=kb L0 MX ha hb (j_ _)
theorem vD {g g':Int→Int→Bool} {tm:List (T×V)} {σ:St} {H:Hp} {Q:VK} (h:lP X Z tm (f3 fa fb Ph (Mo g) (Mo g')) σ H Q):xS (sF fun i j=>.bl (g i j)) (sF fun i j=>.bl (g' i j)) (lR X Z tm fa) (lR X Z tm fb) (lR X Z tm Ph) σ H Q:=by
 obtain ⟨ρ,O,q,I,hf,k⟩:=h
 refine ⟨ρ,O,_,I,hf,fun x hx v H1 s1 a1=>⟨ρ,O,_,I.same s1,hx,fun y hy w H2 s2 a2=>?_⟩⟩
 have J:=(I.same s1).same s2
 unfold Mo at hy
 split at hy
 · rename_i i j
   refine ⟨i,j,(a1.same s2).int,a2.int,_,rfl,?_⟩
   cases e:g i j with
   | true =>
     rw [e] at hy
     refine QR ⟨ρ,O,_,J,hy,fun z hz w3 H3 s3 a3=>?_⟩
     split at hz
     · rename_i e1
       cases e1
       exact ⟨_,_,(a2.same s3).int,a3.int,k _ hz _ H3 ((s1.trans s2).trans s3) ⟨J.same s3,c_⟩⟩
     · exact hz.elim
   | false =>
     rw [e] at hy
     exact QQ (k _ hy _ H2 (s1.trans s2) ⟨J,c_⟩)
 · exact hy.elim
theorem DM {op xT:CmpOp} {g g':Int→Int→Bool} (ho:eY X (compareOp op) (sF fun i j=>.bl (g i j))) (gx:eY X (compareOp xT) (sF fun i j=>.bl (g' i j))) (ha:VR X Z a fa) (hb:VR X Z b fb) (hc:VR X Z c Ph)
 (hm:lastMarks [op,xT] [b,c]=false:=by with_unfolding_all rfl):VP X Z (.Compare a [op,xT] [b,c] pos) (f3 fa fb Ph (Mo g) (Mo g')):=.mk fun tm=>PE.weak (C0 ho gx (ha tm) (hb tm) (hc tm) hm) fun σ H Q h=>vD h
theorem DN {op xT:CmpOp} {g g':Int→Int→Bool} (ho:eY X (compareOp op) (sF fun i j=>.bl (g i j))) (gx:eY X (compareOp xT) (sF fun i j=>.bl (g' i j))) (ha:VR X Z a fa) (hb:VR X Z b fb) (hc:VR X Z c Ph)
  (hm:lastMarks [op,xT] [b,c]=false:=by with_unfolding_all rfl):VC X Z (.Compare a [op,xT] [b,c] pos) (qv (f3 fa fb Ph (Mo g) (Mo g'))):=.mk fun tm=>PT.weak (C1 ho gx (ha tm) (hb tm) (hc tm) hm) fun σ H Q ⟨ρ,O,q,I,hf,k⟩ =>
 vD ⟨ρ,O,_,I,hf,fun t ht u H' s a=>by
  obtain ⟨c,rfl,hc⟩:=yc ht
  have e:=a.2
  simp only [At] at e
  exact ⟨c,e,k c hc H' s⟩⟩
noncomputable def jr (ts:List T):List T:=ts.mapIdx fun i t=>.tup [.int (i:Int),t]
noncomputable def Rg (f:FE):FI:=fun ρ Q=>f ρ fun t=>match t with
 | .lst ts=>Q (jr ts)
 | _=>False
theorem Im {K:PySem.W.Frag} {a:Addr} {ts:List T}:Wk K (Xe K a) [(.lst ts,.ref a)] (jr ts):=fun H A hA h i=>by
 have h:=h _ iw
 simp only [At] at h
 obtain ⟨b,vs,e,l,q⟩:=h
 cases e
 have hl:=q.length
 have hle:(jr ts).length=ts.length:=by unfold jr; rw [List.length_mapIdx]
 rw [hle]
 refine ⟨fun hi=>⟨vs,vs[i]'(by omega),l.sq,by simp⟩,fun hi=>⟨vs,l.sq,by omega⟩,fun t ht x H' y=>?_⟩
 obtain ⟨p,u,hp,rfl,hu,rfl⟩:=y
 unfold jr at ht
 rw [PQ] at ht
 cases e:ts[i]? with
 | none=>rw [e] at ht; cases ht
 | some t' =>
   rw [e] at ht
   cases ht
   obtain ⟨v,e1,e2⟩:=q.get e
   have:=hu vs l.sq
   rw [e1] at this
   cases this
   exact ⟨aU hp,bu (dZ.of a_) (aA.cons bG (aA.cons (e2.same (aU hp)) aA.nil))⟩
theorem gJ {elts:List Expr} {x1} {tp:Pos} (hg:Gl X "enumerate") (hm:X.mg "enumerate" = none) (ha:VE X Z a fa) (hs:starEach [a] X.env=[(false,eval a X.env)]:=by rfl) :
  VI X Z (.Tuple elts x1 tp) (.Call (.Name "enumerate" p) [a] [] pos) (Rg fa):=.mk fun tm=>PI.weak (HH hg hm (bS (ha tm) d6 hs) hs) fun σ H R ⟨ρ,O,q,I,hf,k⟩=>⟨ρ,O,_,I,hf,fun t ht v H' s a=>by
 split at ht
 · have a0:=a
   simp only [At] at a
   obtain ⟨p,vs,rfl,l,_⟩:=a
   exact ⟨p,rfl,⟨vs,l.sq⟩,k _ ht _ H' _ s (fun p hp=>by rw [ou.mp hp]; exact a0) Im⟩
 · exact ht.elim⟩
noncomputable def cf:List T→Option (List Bool)
 | []=>some []
 | .bl b :: ts=>(cf ts).map (b :: ·)
 | _=>none
noncomputable def intsOf:List T→Option (List Int)
 | []=>some []
 | .int b :: ts=>(intsOf ts).map (b :: ·)
 | _=>none
theorem DO {K:PySem.W.Frag} {H:Hp} {A:List Addr}:∀ {ts:List T} {bs:List Bool} {vs:List V},cf ts=some bs→aA K H A ts vs→vs=bs.map V.bl
 | [],bs,vs,e,h=>by simp only [cf] at e; cases e; simp only [aA] at h; rw [h]; rfl
 | .bl b :: ts,bs,vs,e,h=>by
   simp only [cf] at e
   cases q:cf ts with
   | none=>rw [q] at e; cases e
   | some cs =>
     rw [q] at e
     cases e
     simp only [aA,At] at h
     obtain ⟨v,r,rfl,rfl,h⟩:=h
     rw [DO q h]; rfl
 | .bb :: _,_,_,e,_=>by simp [cf] at e
 | .int _ :: _,_,_,e,_=>by simp [cf] at e
 | .str _ :: _,_,_,e,_=>by simp [cf] at e
 | .tup _ :: _,_,_,e,_=>by simp [cf] at e
 | .lst _ :: _,_,_,e,_=>by simp [cf] at e
 | .dk _ _ :: _,_,_,e,_=>by simp [cf] at e
 | .dt _ _ :: _,_,_,e,_=>by simp [cf] at e
 | .df _ _ _ :: _,_,_,e,_=>by simp [cf] at e
 | .dz _ _ _ :: _,_,_,e,_=>by simp [cf] at e
 | .kt _ :: _,_,_,e,_=>by simp [cf] at e
 | .ins _ _ _ :: _,_,_,e,_=>by simp [cf] at e
 | .pin _ _ :: _,_,_,e,_=>by simp [cf] at e
 | .ob _ :: _,_,_,e,_=>by simp [cf] at e
 | .ty _ :: _,_,_,e,_=>by simp [cf] at e
theorem zO {K:PySem.W.Frag} {H:Hp} {A:List Addr}:∀ {ts:List T} {bs:List Int} {vs:List V},intsOf ts=some bs→aA K H A ts vs→vs=bs.map V.int
 | [],bs,vs,e,h=>by simp only [intsOf] at e; cases e; simp only [aA] at h; rw [h]; rfl
 | .int b :: ts,bs,vs,e,h=>by
   simp only [intsOf] at e
   cases q:intsOf ts with
   | none=>rw [q] at e; cases e
   | some cs =>
     rw [q] at e
     cases e
     simp only [aA,At] at h
     obtain ⟨v,r,rfl,rfl,h⟩:=h
     rw [zO q h]; rfl
 | .bb :: _,_,_,e,_=>by simp [intsOf] at e
 | .bl _ :: _,_,_,e,_=>by simp [intsOf] at e
 | .str _ :: _,_,_,e,_=>by simp [intsOf] at e
 | .tup _ :: _,_,_,e,_=>by simp [intsOf] at e
 | .lst _ :: _,_,_,e,_=>by simp [intsOf] at e
 | .dk _ _ :: _,_,_,e,_=>by simp [intsOf] at e
 | .dt _ _ :: _,_,_,e,_=>by simp [intsOf] at e
 | .df _ _ _ :: _,_,_,e,_=>by simp [intsOf] at e
 | .dz _ _ _ :: _,_,_,e,_=>by simp [intsOf] at e
 | .kt _ :: _,_,_,e,_=>by simp [intsOf] at e
 | .ins _ _ _ :: _,_,_,e,_=>by simp [intsOf] at e
 | .pin _ _ :: _,_,_,e,_=>by simp [intsOf] at e
 | .ob _ :: _,_,_,e,_=>by simp [intsOf] at e
 | .ty _ :: _,_,_,e,_=>by simp [intsOf] at e
noncomputable def Rh (ts:List T) (q:Rt→Prop):Prop:=match ts with
 | [.lst l]=>∃ bs,cf l=some bs∧q (.vw (.bl (bs.all id)))
 | _=>False
theorem jI {K:PySem.W.Frag}:m7 K (fun xs H Q=>∃ (p:Addr) (bs:List Bool),xs=[.ref p]∧gy K H p (bs.map V.bl)∧Q (.bl (bs.all id)) H) Rh:=by
 intro Z tm O ρ σ H ts vs q Q I h hp k
 unfold Rh at hp
 split at hp
 · obtain ⟨bs,e,hp⟩:=hp
   obtain ⟨v,rfl,a⟩:=cx h
   obtain ⟨p,ws,rfl,q1,q2⟩:=a.lst
   rw [DO e q2] at q1
   exact ⟨p,bs,rfl,q1,k _ hp _ H (aX.refl H) ⟨I,c_⟩⟩
 · exact hp.elim
noncomputable def Ri (ts:List T) (q:Rt→Prop):Prop:=match ts with
 | [.lst l]=>∃ ns,intsOf l=some ns∧q (.vw (.int ns.sum))
 | _=>False
theorem A6 {K:PySem.W.Frag}:m7 K (fun xs H Q=>∃ (p:Addr) (ns:List Int),xs=[.ref p]∧gy K H p (ns.map V.int)∧Q (.int ns.sum) H) Ri:=by
 intro Z tm O ρ σ H ts vs q Q I h hp k
 unfold Ri at hp
 split at hp
 · obtain ⟨bs,e,hp⟩:=hp
   obtain ⟨v,rfl,a⟩:=cx h
   obtain ⟨p,ws,rfl,q1,q2⟩:=a.lst
   rw [zO e q2] at q1
   exact ⟨p,bs,rfl,q1,k _ hp _ H (aX.refl H) ⟨I,bG⟩⟩
 · exact hp.elim
noncomputable def XO (f:FP) (fb:FE):FP:=fun ρ Q=>f ρ fun r=>match r with
 | .fr (.lst ts)=>fb ρ fun y=>match y with
   | .int k=>-(2 ^ 63)≤k∧k < 2 ^ 63∧ts.length * k.toNat≤sizeLine∧Q (.fr (.lst (List.replicate k.toNat ts).flatten))
   | _=>False
 | _=>False
theorem aA.rep {K:PySem.W.Frag} {H:Hp} {A:List Addr} {ts:List T} {vs:List V} (h:aA K H A ts vs):∀ k:Nat,aA K H A (List.replicate k ts).flatten (List.replicate k vs).flatten
 | 0=>aA.nil
 | k+1=>by rw [ot,ot,CK,CK]; exact h.append (aA.rep h k)
theorem jt {f:FP} (ha:VP X Z a f) (hb:VR X Z b fb):VP X Z (.BinOp a .Mult b pos) (XO f fb):=.mk fun tm=>PE.weak (Kj Md (ha tm) (hb tm)) fun σ H Q ⟨ρ,O,q,I,hf,k⟩=>⟨ρ,O,_,I,hf,fun r hr v H1 s1 z=>by
 split at hr
 · obtain ⟨l,rfl,J,⟨xs,e,q1⟩,_⟩:=z
   refine ⟨ρ,O,_,I.same s1,hr,fun y hy w H2 s2 a2=>?_⟩
   split at hy
   · obtain ⟨h1,h2,h3,hy⟩:=hy
     have q2:aA X.K H2 (av Z O) _ xs:=(q1.same s2).bo fN
     exact ⟨l,_,xs,rfl,a2.int,s2 _ _ e,h1,h2,by rw [q2.length]; exact h3,fun p hp=>k _ hy _ _ ((s1.trans s2).trans (aU hp)) (((I.same s1).same s2).A0 hp (q2.rep _))⟩
   · exact hy.elim
 · exact hr.elim⟩
end
structure Df (K:PySem.W.Frag) (mg:Str→Option Value) (x:Str) (st:Stmt) (ps:List Str) (f:Addr) (fd:FuncData):Prop where
 F:Di K x x st f fd
 m:mg x=some (.ref f)
 b:Binds K fd ps []
noncomputable def bY (P:Program) (w:World) (K:PySem.W.Frag) (mg:Str→Option Value) (base:Heap) (x:Str) (ps:List Str) (k:Nat) (sp:Sp):Prop :=
 ∃ f fd,mg x=some (.ref f)∧PySem.W.keepIn K (.ref f)=true∧Binds K fd ps []∧d0 P w K mg base jk k f fd ps sp
theorem Df.i5 {P:Program} {w:World} {K:PySem.W.Frag} {mg:Str→Option Value} {base:Heap} {x:Str} {st:Stmt} {ps:List Str} {f:Addr} {fd:FuncData} {k:Nat} {sp:Sp} (D:Df K mg x st ps f fd) (F:d0 P w K mg base jk k f fd ps sp):bY P w K mg base x ps k sp :=
 ⟨f,fd,D.m,D.F.kp,D.b,F⟩
theorem n5 {H:Hp} {Ox:List Addr} {i:Nat}:a9 ⟨H,[],Ox⟩ i:=fun _ z=>nomatch z
section
variable {P:Program} {w:World} {K:PySem.W.Frag} {mg:Str→Option Value} {base:Heap}
theorem jJ {x qual:Str} {st:Stmt} {f:Addr} {fd:FuncData} {N ps:List Str} {k n:Nat} {G:List T→(Rt→Prop)→Prop} (F:Di K x qual st f fd) (S:aN N ps (ak st)) (hn:n=ps.length)
  (jh:∀ (bO:Value) (A:Around) (outer:List Env) (s:Shared) (H:Hp) (E:XK) (Ox:List Addr),bA k (A.deeper (envOfC qual (ak st) s.heap.objs.size f bO))→∀ ts q,G ts q →
    ∃ g,nL (iA jk P w K mg base N qual (ak st) f bO A outer s H E).uW ⟨H,[],Ox⟩ (cQ st) g∧(ts.length=n→g { nx:=fun _=>q (.vw .bb),rt:=fun _ r=>q r } (ts.map (fun t=>some (t,false)) ++ List.replicate (N.length - ts.length) none))) :
  d0 P w K mg base jk (k+1) f fd ps (bQ K n G):=by
 have hp:∀ n (as:List Addr) k,pz (List.replicate n false) as k=[]:=by
  intro n
  induction n with
  | zero=>intro as k; rfl
  | succ n ih=>intro as k; exact ih as (k+1)
 have hfi:∀ n (ρ:En),nM (List.replicate n false) ρ=[]:=by
  intro n
  induction n with
  | zero=>intro ρ; rfl
  | succ n ih=>intro ρ; exact ih ρ.tail
 have he:∀ n (ts:List T),ts.length=n→xC (List.replicate n false) ts=ts.map fun t=>some (t,false):=by
  intro n
  induction n with
  | zero=>intro ts e; cases ts <;> simp_all [xC]
  | succ n ih =>
    intro ts e
    cases ts with
    | nil=>simp at e
    | cons t ts=>rw [ot,xC,ih ts (by simpa using e)]; rfl
 refine Vu F S (by rw [xt]; exact hn) fun bO A outer s H E as Ox hr ts q hl hG=>?_
 rw [xt] at hl
 obtain ⟨g,h1,h2⟩:=jh bO A outer s H E Ox hr ts (q []) hG
 refine ⟨g,by rw [hp]; exact h1,?_⟩
 rw [he n ts hl]
 simp only [hfi]
 exact h2 hl
end
theorem bA.fu {k:Nat} {A:Around} (r:bA k A):A.units+101 < cLine:=by have:=r.un; omega
theorem yj:bootBuiltins "list" = some (.type "list"):=by decide +kernel
theorem n6:bootBuiltins "tuple" = some (.type "tuple"):=by decide +kernel
theorem zP:bootBuiltins "all" = some (.builtin "all"):=by decide +kernel
theorem Rj:bootBuiltins "sum" = some (.builtin "sum"):=by decide +kernel
theorem Rk:bootBuiltins "min" = some (.builtin "min"):=by decide +kernel
theorem Rl:bootBuiltins "int" = some (.type "int"):=by decide +kernel
theorem MY:bootBuiltins "bool" = some (.type "bool"):=by decide +kernel
theorem DP:bootBuiltins "str" = some (.type "str"):=by decide +kernel
theorem n8:∀ {fs:List Bool} {as:List Addr} {k:Nat},∀ p∈pz fs as k,k≤p.1∧fs[p.1 - k]?=some true
 | [],_,_,p,hp=>nomatch hp
 | false :: fs,as,k,p,hp=>by
   obtain ⟨h1,h2⟩:=n8 (fs:=fs) (as:=as) (k:=k+1) p hp
   refine ⟨by omega,?_⟩
   have:p.1 - k=(p.1 - (k+1))+1:=by omega
   rw [this]; simpa using h2
 | true :: fs,a :: as,k,p,hp=>by
   rcases cZ.mp hp with z | z
   · subst z; exact ⟨cA _,by simp⟩
   · obtain ⟨h1,h2⟩:=n8 (fs:=fs) (as:=as) (k:=k+1) p z
     refine ⟨by omega,?_⟩
     have:p.1 - k=(p.1 - (k+1))+1:=by omega
     rw [this]; simpa using h2
 | true :: fs,[],k,p,hp=>by
   obtain ⟨h1,h2⟩:=n8 (fs:=fs) (as:=[]) (k:=k+1) p hp
   refine ⟨by omega,?_⟩
   have:p.1 - k=(p.1 - (k+1))+1:=by omega
   rw [this]; simpa using h2
theorem zQ {H:Hp} {fs:List Bool} {as Ox:List Addr} {i:Nat} (h:fs[i]?≠some true):a9 ⟨H,pz fs as 0,Ox⟩ i:=fun p hp e=>by
 have:=(n8 p hp).2
 rw [Nat.sub_zero,e] at this
 exact h this
theorem dv (lo:Int) (n:Nat):(rangeT lo n).length=n:=by unfold rangeT; rw [b_,GY]
theorem oZ {lo:Int} {n i:Nat} {t:T} (h:(rangeT lo n)[i]?=some t):i < n∧t = .int (lo+(i:Int)):=by
 unfold rangeT at h
 rw [gw] at h
 cases e:(List.range n)[i]? with
 | none=>rw [e] at h; cases h
 | some j =>
   rw [e] at h
   obtain ⟨h1,h2⟩:=cn.mp e
   rw [List.getElem_range] at h2
   rw [GY] at h1
   subst h2
   cases h
   exact ⟨h1,rfl⟩
theorem ki {lo:Int} {n:Nat} {h:FG} {g:FS} {d:GJ} {ρ:En} (Pv:Nat→En→Prop) (h0:Pv 0 ρ) (hs:∀ (i:Nat) ρ',i < n→Pv i ρ'→h (.int (lo+(i:Int))) ρ' fun ρ2=>g { nx:=Pv (i+1),ct:=Pv (i+1),bk:=d.nx,rt:=d.rt } ρ2)
 (hd:∀ ρ',Pv n ρ'→d.nx ρ'):oM (rangeT lo n) h g d ρ:=⟨Pv,h0,fun i t ρ' e p=>by obtain ⟨h1,rfl⟩:=oZ e; exact hs i ρ' h1 p,fun ρ' p=>hd ρ' (by rw [dv] at p; exact p)⟩
theorem kT {α:Type} {f:α→T} {xs:List α} {h:FG} {g:FS} {d:GJ} {ρ:En} (Pv:Nat→En→Prop) (h0:Pv 0 ρ) (hs:∀ (i:Nat) x ρ',xs[i]?=some x→Pv i ρ'→h (f x) ρ' fun ρ2=>g { nx:=Pv (i+1),ct:=Pv (i+1),bk:=d.nx,rt:=d.rt } ρ2)
 (hd:∀ ρ',Pv xs.length ρ'→d.nx ρ'):oM (xs.map f) h g d ρ:=⟨Pv,h0,fun i t ρ' e p=>by
   rw [gw] at e
   cases q:xs[i]? with
   | none=>rw [q] at e; cases e
   | some x=>rw [q] at e; cases e; exact hs i x ρ' q p,fun ρ' p=>hd ρ' (by rw [b_] at p; exact p)⟩
theorem MZ {c:Bool} {A B:Prop} (hc:c=true) (h:A):if c=true then A else B:=by rw [if_pos hc]; exact h
theorem gB {c:Bool} {A B:Prop} (hc:c=false) (h:B):if c=true then A else B:=by rw [if_neg (by rw [hc]; exact c7)]; exact h
theorem cJ {c A B:Prop} [Decidable c] (h1:c→A) (h2:¬ c→B):if decide c=true then A else B:=by
 by_cases h:c
 · rw [if_pos (decide_eq_true h)]; exact h1 h
 · rw [if_neg (by rw [decide_eq_false h]; exact c7)]; exact h2 h
section
variable {prog:Program} {w:World} {A:Around} {E:Value→Shared→Prop} {s:Shared}
theorem kU {it t:Addr} {i:Nat} {items:Array Value} {x:Value} {Q:Value→Shared→Prop} (hit:s.heap.IsTupleIter it t i) (ht:s.heap.IsTuple t items) (hx:items[i]?=some x)
  (hQ:∀ h',h'.IsTupleIter it t (i+1)→Heap.SameBut it s.heap h'→Q x { s with heap:=h' }):wpAny (model prog w) A (Builtin.SmallTypes.nextOf (.ref it)) Q E s:=by
 obtain ⟨o,ho,hc,hd⟩:=id hit
 obtain ⟨ol,Io,_,nl,DQ⟩:=ht
 unfold Builtin.SmallTypes.nextOf
 refine wpAny_bind (wpAny_callSpecial?_slot (name:=Str.ofString "__next__") hit.typeIs UU
  (wpAny_call_entry UU hit.typeIs F.entry_tuple_iterator_next ?_ (F.args_tuple_iterator_next_1 _)))
 show wpAny _ _ (field (.ref it) 0 >>= _) _ _ s
 refine wpAny_bind (wpAny_field ho hd (x:=.ref t) rfl ?_)
 show wpAny _ _ (if (Value.ref t == Value.none)=true then _ else _) _ _ s
 rw [if_neg (show ¬ ((Value.ref t == Value.none)=true) from c7)]
 show wpAny _ _ (field (.ref it) 1 >>= _) _ _ s
 refine wpAny_bind (wpAny_field ho hd (x:=.int i 0) rfl ?_)
 show wpAny _ _ (seqItems? (.ref t) >>= _) _ _ s
 refine wpAny_bind (wpAny_seqItems Io DQ ?_)
 simp only [lU,hx]
 refine wpAny_bind (wpAny_setField ho hd (by simp) (wpAny_pure ⟨x,rfl,wpAny_pure (hQ _ ?_ (Heap.SameBut.update ..))⟩))
 exact ⟨_,Heap.get?_update_self _ ho (Obj.isFreed_of_fields (Obj.data_mapFields hd _)),(Obj.cls_mapFields ..).trans hc,by
  rw [Obj.data_mapFields hd]; simp [rawInt]⟩
theorem mm {it t:Addr} {i:Nat} {items:Array Value} {Q:Value→Shared→Prop} (hh:A.handled=none) (hit:s.heap.IsTupleIter it t i) (ht:s.heap.IsTuple t items) (hx:items[i]?=none)
  (hE:∀ h' e,Heap.ExtBut it s.heap h'→(∃ o,h'.get? e=some o∧o.cls = .type "StopIteration")→E (.ref e) { s with heap:=h' }):wpAny (model prog w) A (Builtin.SmallTypes.nextOf (.ref it)) Q E s:=by
 obtain ⟨o,ho,hc,hd⟩:=id hit
 obtain ⟨ol,Io,_,nl,DQ⟩:=ht
 unfold Builtin.SmallTypes.nextOf
 refine wpAny_bind (wpAny_callSpecial?_slot (name:=Str.ofString "__next__") hit.typeIs UU
  (wpAny_call_entry UU hit.typeIs F.entry_tuple_iterator_next ?_ (F.args_tuple_iterator_next_1 _)))
 show wpAny _ _ (field (.ref it) 0 >>= _) _ _ s
 refine wpAny_bind (wpAny_field ho hd (x:=.ref t) rfl ?_)
 show wpAny _ _ (if (Value.ref t == Value.none)=true then _ else _) _ _ s
 rw [if_neg (show ¬ ((Value.ref t == Value.none)=true) from c7)]
 show wpAny _ _ (field (.ref it) 1 >>= _) _ _ s
 refine wpAny_bind (wpAny_field ho hd (x:=.int i 0) rfl ?_)
 show wpAny _ _ (seqItems? (.ref t) >>= _) _ _ s
 refine wpAny_bind (wpAny_seqItems Io DQ ?_)
 simp only [lU,hx]
 refine wpAny_bind (wpAny_rule (wpAny_bind (wpAny_setField ho hd (by simp) ?_)))
 show wpAny _ _ (newExc (.type "StopIteration") [] >>= _) _ _ _
 refine wpAny_bind ?_
 simp only [newExc,newTuple]
 refine wpAny_bind (wpAny_newObj_type ?_ (by size_fits))
 refine wpAny_bind (m:=firstArgMember _ _) (wpAny_of_eq (a:=Value.none) (by first | rfl | (simp only [firstArgMember]; rfl)) ?_)
 refine wpAny_newObj_type ?_ (by size_fits)
 simp only [raiseNew]
 refine wpAny_bind (wpAny_handled ?_)
 first | rw [show A.in1.handled=none from hh] | rw [hh]
 refine wpAny_bind (wpAny_pure (wpAny_throw ?_))
 exact hE _ _ (((Heap.SameBut.update ..).extBut.push _).push _) ⟨_,mZ _ rfl,rfl⟩
end
structure Part (prog:Program) (w:World) (i:Addr) (fp:List Addr) (n:Nat) (Pv:Nat→Value→Prop) (st:Nat→Heap→Prop):Prop where
 draws:∀ A:Around,A.handled=none→Draws prog w A i fp n Pv st
 mem:i∈fp
 fld:∀ k h,st k h→∃ o vs,h.get? i=some o∧o.data = .fields vs
theorem A7 {prog:Program} {w:World} (it l:Addr) (gG:l≠it) (items:Array Value):Part prog w it [it,l] items.size (fun i v=>items[i]?=some v) (fun i h=>h.IsListIter it l i∧h.IsList l items) :=
 ⟨fun A hh=>Draws.list hh it l gG items,by simp,fun k h st=>let ⟨⟨o,e,_,d⟩,_⟩:=st; ⟨o,_,e,d⟩⟩
theorem yk {prog:Program} {w:World} (it l:Addr) (gG:l≠it) (items:Array Value):Part prog w it [it,l] items.size (fun i v=>items[i]?=some v) (fun i h=>h.IsTupleIter it l i∧h.IsTuple l items) :=
 ⟨fun A hh=>{ live:=fun _ _ st=>let ⟨o,ho,_⟩:=st.1; ⟨o,ho⟩
              frame:=fun _ _ _ st hk=>⟨let ⟨o,ho,r⟩:=st.1; ⟨o,hk it (by simp) o ho,r⟩,let ⟨o,ho,r⟩:=st.2; ⟨o,hk l (by simp) o ho,r⟩⟩
              item:=fun i s Q E hi st hQ=>kU st.1 st.2 (x:=items[i]) (by simp [hi]) fun h' XQ GL=>hQ _ h' s.toks (by simp [hi]) ⟨XQ,st.2.extBut GL.extBut gG⟩ GL
              done:=fun s Q E st hE=>mm hh st.1 st.2 (by simp) hE },by simp,fun k h st=>let ⟨⟨o,e,_,d⟩,_⟩:=st; ⟨o,_,e,d⟩⟩
theorem DR {prog:Program} {w:World} (it:Addr) (x:Str) (t:Tok):Part prog w it [it] x.cps.size (fun i v=>∃ c u,x.cps[i]?=some c∧v = .str ⟨#[c]⟩ u) (fun i h=>h.IsStrIter it (strIterType x) x t i):=by
 rcases c9 x with z | z
 · rw [z]; exact ⟨fun A hh=>Draws.strAscii hh it x t,by simp,fun k h st=>let ⟨o,e,_,d⟩:=st; ⟨o,_,e,d⟩⟩
 · rw [z]; exact ⟨fun A hh=>Draws.strWide hh it x t,by simp,fun k h st=>let ⟨o,e,_,d⟩:=st; ⟨o,_,e,d⟩⟩
structure Apart (z TI TO i1 i2:Addr) (o4 n9:List Addr):Prop where
 TIz:TI≠z
 TOz:TO≠z
 i1z:i1≠z
 i2z:i2≠z
 TITO:TI≠TO
 TIi1:TI≠i1
 TIi2:TI≠i2
 TOi1:TO≠i1
 TOi2:TO≠i2
 i12:i1≠i2
 z1:z∉o4
 z2:z∉n9
 O1:TO∉o4
 O2:TO∉n9
 x1:i2∉o4
 x2:i1∉n9
section
variable {prog:Program} {w:World} {A:Around} {E:Value→Shared→Prop} {s:Shared} {z TI TO i1 i2:Addr} {o4 n9:List Addr} {n1 n2:Nat} {P1 P2:Nat→Value→Prop} {S1 S2:Nat→Heap→Prop}
theorem DS {k:Nat} {a b:Value} {Q:Value→Shared→Prop} (hh:A.handled=none) (D:Apart z TI TO i1 i2 o4 n9) (p1:Part prog w i1 o4 n1 P1 S1) (p2:Part prog w i2 n9 n2 P2 S2)
  (hz:IsZip s.heap z TI TO .none) (Ip:IsPair s.heap TI (.ref i1) (.ref i2)) (Iq:IsPair s.heap TO a b) (h1:S1 k s.heap) (h2:S2 k s.heap) (hx:k < n1) (hy:k < n2)
  (hQ:∀ x y h' tk,P1 k x→P2 k y→IsZip h' z TI TO (rawInt s.heap.objs.size)→IsPair h' TO x y→S1 (k+1) h'→S2 (k+1) h'→IsPair h' s.heap.objs.size x y→h'.objs.size=s.heap.objs.size+1 →
    (∀ c o,c≠z→c≠TO→c≠i1→c≠i2→s.heap.get? c=some o→h'.get? c=some o)→Q (.ref s.heap.objs.size) { s with heap:=h',toks:=tk }) :
  wpAny (model prog w) A (Builtin.«zip.__next__» ⟨[.ref z],[]⟩) (fun fin s'=>∃ v,fin = .done (.ret v)∧Q v s') E s:=by
 show wpAny _ _ (field (.ref z) 2 >>= _) _ _ _
 refine wpAny_bind (wpAny_field hz rfl (x:=.bool false) rfl ?_)
 show wpAny _ _ (field (.ref z) 3 >>= _) _ _ _
 refine wpAny_bind (wpAny_field hz rfl (x:=.ref TI) rfl ?_)
 refine wpAny_bind (wpAny_seqItems Ip rfl ?_)
 show wpAny _ _ (Builtin.SmallTypes.ownedTupleIsFree (.ref z) >>= _) _ _ _
 refine wpAny_bind ?_
 unfold Builtin.SmallTypes.ownedTupleIsFree
 refine wpAny_bind (wpAny_field hz rfl (x:=.none) rfl (wpAny_pure ?_))
 simp only [if_true]
 refine wpAny_bind (wpAny_rule ?_)
 refine wpAny_bind (wpAny_field hz rfl (x:=.ref TO) rfl ?_)
 refine wpAny_bind (wpAny_setField_rec hz (by simp) fun h₁ Dq CB=>?_)
 replace Dq:IsZip h₁ z TI TO .ellipsis:=Dq
 refine wpAny_bind ?_
 simp only [List.zipIdx_cons,List.zipIdx_nil,List.forIn_cons,List.forIn_nil]
 have f1:∀ {m h h' c},c∉o4→S1 m h→Heap.SameBut c h h'→S1 m h':=fun {m h h' c} hc st sb=>(p1.draws A hh).frame m h h' st fun b hb o e=>sb.extBut b o (fun q=>hc (q▸hb)) e
 have f2:∀ {m h h' c},c∉n9→S2 m h→Heap.SameBut c h h'→S2 m h':=fun {m h h' c} hc st sb=>(p2.draws A hh).frame m h h' st fun b hb o e=>sb.extBut b o (fun q=>hc (q▸hb)) e
 refine wpAny_bind (wpAny_bind (wpAny_onRaise ?_))
 show wpAny _ _ (Builtin.SmallTypes.nextOf (.ref i1) >>= _) _ _ _
 refine wpAny_bind ((p1.draws _ hh).item k _ _ _ hx (f1 D.z1 h1 CB) fun x h₂ tk₂ px Z9 qo=>wpAny_pure ?_)
 replace qo:Heap.SameBut i1 h₁ h₂:=qo
 have DT:IsPair h₂ TO a b:=qo.extBut _ _ D.TOi1 (CB.extBut _ _ D.TOz Iq)
 refine wpAny_bind (wpAny_seqItems DT rfl ?_)
 refine wpAny_bind (wpAny_updateSeq_pair DT fun h₃ Ir xD=>?_)
 replace Ir:IsPair h₃ TO x b:=Ir
 replace xD:Heap.SameBut TO h₂ h₃:=xD
 refine wpAny_bind (wpAny_letGo (wpAny_pure ?_))
 refine wpAny_bind (wpAny_bind (wpAny_onRaise ?_))
 show wpAny _ _ (Builtin.SmallTypes.nextOf (.ref i2) >>= _) _ _ _
 refine wpAny_bind ((p2.draws _ hh).item k _ _ _ hy (f2 D.O2 (f2 D.x2 (f2 D.z2 h2 CB) qo) xD) fun y h₄ tk₄ py h2₄ GN=>wpAny_pure ?_)
 replace GN:Heap.SameBut i2 h₃ h₄:=GN
 have Rm:IsPair h₄ TO x b:=GN.extBut _ _ D.TOi2 Ir
 refine wpAny_bind (wpAny_seqItems Rm rfl ?_)
 refine wpAny_bind (wpAny_updateSeq_pair Rm fun h₅ Iu GO=>?_)
 replace Iu:IsPair h₅ TO x y:=Iu
 replace GO:Heap.SameBut TO h₄ h₅:=GO
 refine wpAny_bind (wpAny_letGo (wpAny_pure (wpAny_pure ?_)))
 refine wpAny_bind (wpAny_seqItems Iu rfl ?_)
 refine wpAny_bind (wpAny_newTuple ?_)
 have zv:h₅.objs.size=s.heap.objs.size:=by rw [GO.1,GN.1,xD.1,qo.1,CB.1]
 have Z_:IsZip h₅ z TI TO .ellipsis:=GO.extBut _ _ D.TOz.symm (GN.extBut _ _ D.i2z.symm (xD.extBut _ _ D.TOz.symm (qo.extBut _ _ D.i1z.symm Dq)))
 have hk₅:∀ c o,c≠z→c≠TO→c≠i1→c≠i2→s.heap.get? c=some o→h₅.get? c=some o:=fun c o c1 c2 c3 c4 e =>
  GO.extBut _ _ c2 (GN.extBut _ _ c4 (xD.extBut _ _ c2 (qo.extBut _ _ c3 (CB.extBut _ _ c1 e))))
 have h1₅:S1 (k+1) h₅:=f1 D.O1 (f1 D.x1 (f1 D.O1 Z9 xD) GN) GO
 have h2₅:S2 (k+1) h₅:=f2 D.O2 h2₄ GO
 have Rn:z < h₅.objs.size:=fM Z_
 show wpAny _ _ (Builtin.SmallTypes.ownedTupleHandOut (.ref z) (.ref h₅.objs.size) >>= _) _ _ _
 refine wpAny_bind ?_
 unfold Builtin.SmallTypes.ownedTupleHandOut
 have hz₆:IsZip (h₅.push { cls:=.type "tuple",data:=.seq #[x,y] }) z TI TO .ellipsis:=fF _ Z_
 refine wpAny_bind (wpAny_setField_rec hz₆ (by simp) fun h₇ XR XS=>?_)
 replace XR:IsZip h₇ z TI TO (rawInt h₅.objs.size):=XR
 refine wpAny_setField_rec XR (by simp) fun h₈ Vx XT=>?_
 replace Vx:IsZip h₈ z TI TO (rawInt h₅.objs.size):=Vx
 have up:∀ c o,c≠z→h₅.get? c=some o→h₈.get? c=some o:=fun c o c1 e=>XT.extBut _ _ c1 (XS.extBut _ _ c1 (fF _ e))
 have hT₈:IsPair h₈ h₅.objs.size x y:=XT.extBut _ _ (Gz Rn) (XS.extBut _ _ (Gz Rn) (mZ _ rfl))
 have hz8:h₈.objs.size=h₅.objs.size+1:=by rw [XT.1,XS.1,xy]
 have h1₈:S1 (k+1) h₈:=(p1.draws A hh).frame _ _ _ h1₅ fun b hb o e=>up b o (fun q=>D.z1 (q▸hb)) e
 have h2₈:S2 (k+1) h₈:=(p2.draws A hh).frame _ _ _ h2₅ fun b hb o e=>up b o (fun q=>D.z2 (q▸hb)) e
 rw [zv] at Vx hT₈ hz8
 refine wpAny_pure ⟨_,rfl,?_⟩
 show Q (.ref h₅.objs.size) _
 rw [zv]
 exact hQ x y h₈ tk₄ px py Vx (up _ _ D.TOz Iu) h1₈ h2₈ hT₈ hz8 fun c o c1 c2 c3 c4 e=>up c o c1 (hk₅ c o c1 c2 c3 c4 e)
theorem Iv {k:Nat} {a b:Value} {Q:PySem.Fin→Shared→Prop} (hh:A.handled=none) (D:Apart z TI TO i1 i2 o4 n9) (p1:Part prog w i1 o4 n1 P1 S1) (p2:Part prog w i2 n9 n2 P2 S2)
  (hz:IsZip s.heap z TI TO .none) (Ip:IsPair s.heap TI (.ref i1) (.ref i2)) (Iq:IsPair s.heap TO a b) (h1:S1 k s.heap) (h2:S2 k s.heap) (M0:k=n1∨(k < n1∧k=n2))
  (hE:∀ h' tk e,(∀ c o,c≠z→c≠TO→c≠i1→c≠i2→s.heap.get? c=some o→h'.get? c=some o)→(∃ o,h'.get? e=some o∧o.cls = .type "StopIteration")→E (.ref e) { s with heap:=h',toks:=tk }) :
  wpAny (model prog w) A (Builtin.«zip.__next__» ⟨[.ref z],[]⟩) Q E s:=by
 have f1:∀ {m h h' c},c∉o4→S1 m h→Heap.SameBut c h h'→S1 m h':=fun {m h h' c} hc st sb=>(p1.draws A hh).frame m h h' st fun b hb o e=>sb.extBut b o (fun q=>hc (q▸hb)) e
 have f2:∀ {m h h' c},c∉n9→S2 m h→Heap.SameBut c h h'→S2 m h':=fun {m h h' c} hc st sb=>(p2.draws A hh).frame m h h' st fun b hb o e=>sb.extBut b o (fun q=>hc (q▸hb)) e
 show wpAny _ _ (field (.ref z) 2 >>= _) _ _ _
 refine wpAny_bind (wpAny_field hz rfl (x:=.bool false) rfl ?_)
 show wpAny _ _ (field (.ref z) 3 >>= _) _ _ _
 refine wpAny_bind (wpAny_field hz rfl (x:=.ref TI) rfl ?_)
 refine wpAny_bind (wpAny_seqItems Ip rfl ?_)
 show wpAny _ _ (Builtin.SmallTypes.ownedTupleIsFree (.ref z) >>= _) _ _ _
 refine wpAny_bind ?_
 unfold Builtin.SmallTypes.ownedTupleIsFree
 refine wpAny_bind (wpAny_field hz rfl (x:=.none) rfl (wpAny_pure ?_))
 simp only [if_true]
 refine wpAny_bind (wpAny_rule ?_)
 refine wpAny_bind (wpAny_field hz rfl (x:=.ref TO) rfl ?_)
 refine wpAny_bind (wpAny_setField_rec hz (by simp) fun h₁ Dq CB=>?_)
 replace Dq:IsZip h₁ z TI TO .ellipsis:=Dq
 refine wpAny_bind ?_
 simp only [List.zipIdx_cons,List.zipIdx_nil,List.forIn_cons,List.forIn_nil]
 refine wpAny_bind (wpAny_bind (wpAny_onRaise ?_))
 show wpAny _ _ (Builtin.SmallTypes.nextOf (.ref i1) >>= _) _ _ _
 rcases M0 with rfl | ⟨gz,rfl⟩
 · refine wpAny_bind ((p1.draws _ hh).done _ _ _ (f1 D.z1 h1 CB) fun h₂ e qo he=>?_)
   obtain ⟨oe,M6,Ro⟩:=he
   have Vy:IsZip h₂ z TI TO .ellipsis:=qo _ _ D.i1z.symm Dq
   have XU:e≠z:=fun x=>by subst x; rw [Vy] at M6; cases M6; simp at Ro
   refine wpAny_setField_rec Vy (by simp) fun h₃ _ xD=>hE h₃ _ e (fun c o c1 _ c3 _ x=>xD.extBut _ _ c1 (qo _ _ c3 (CB.extBut _ _ c1 x))) ⟨oe,xD.extBut _ _ XU M6,Ro⟩
 · refine wpAny_bind ((p1.draws _ hh).item k _ _ _ gz (f1 D.z1 h1 CB) fun x h₂ tk₂ px Z9 qo=>wpAny_pure ?_)
   replace qo:Heap.SameBut i1 h₁ h₂:=qo
   have DT:IsPair h₂ TO a b:=qo.extBut _ _ D.TOi1 (CB.extBut _ _ D.TOz Iq)
   refine wpAny_bind (wpAny_seqItems DT rfl ?_)
   refine wpAny_bind (wpAny_updateSeq_pair DT fun h₃ Ir xD=>?_)
   replace xD:Heap.SameBut TO h₂ h₃:=xD
   refine wpAny_bind (wpAny_letGo (wpAny_pure ?_))
   refine wpAny_bind (wpAny_bind (wpAny_onRaise ?_))
   show wpAny _ _ (Builtin.SmallTypes.nextOf (.ref i2) >>= _) _ _ _
   refine wpAny_bind ((p2.draws _ hh).done _ _ _ (f2 D.O2 (f2 D.x2 (f2 D.z2 h2 CB) qo) xD) fun h₄ e GN he=>?_)
   obtain ⟨oe,M6,Ro⟩:=he
   have hz₄:IsZip h₄ z TI TO .ellipsis:=GN _ _ D.i2z.symm (xD.extBut _ _ D.TOz.symm (qo.extBut _ _ D.i1z.symm Dq))
   have XU:e≠z:=fun x=>by subst x; rw [hz₄] at M6; cases M6; simp at Ro
   refine wpAny_setField_rec hz₄ (by simp) fun h₅ _ GO=>hE h₅ _ e (fun c o c1 c2 c3 c4 x=>GO.extBut _ _ c1 (GN _ _ c4 (xD.extBut _ _ c2 (qo.extBut _ _ c3 (CB.extBut _ _ c1 x))))) ⟨oe,GO.extBut _ _ XU M6,Ro⟩
theorem nO {k:Nat} {a b:Value} {Q:Option Value→Shared→Prop} (hh:A.handled=none) (D:Apart z TI TO i1 i2 o4 n9) (p1:Part prog w i1 o4 n1 P1 S1) (p2:Part prog w i2 n9 n2 P2 S2)
  (hz:IsZip s.heap z TI TO .none) (Ip:IsPair s.heap TI (.ref i1) (.ref i2)) (Iq:IsPair s.heap TO a b) (h1:S1 k s.heap) (h2:S2 k s.heap) (hx:k < n1) (hy:k < n2)
  (hQ:∀ x y h' tk,P1 k x→P2 k y→IsZip h' z TI TO (rawInt s.heap.objs.size)→IsPair h' TO x y→S1 (k+1) h'→S2 (k+1) h'→IsPair h' s.heap.objs.size x y→h'.objs.size=s.heap.objs.size+1 →
    (∀ c o,c≠z→c≠TO→c≠i1→c≠i2→s.heap.get? c=some o→h'.get? c=some o)→Q (some (.ref s.heap.objs.size)) { s with heap:=h',toks:=tk }):wpAny (model prog w) A (pyNext (.ref z)) Q E s:=by
 have hT:s.TypeIs (.ref z) "zip":=⟨_,hz,rfl⟩
 unfold pyNext
 exact wpAny_bind (wpAny_attempt (wpAny_callSpecial?_slot (name:=Str.ofString "__next__") hT F.slot_zip_next
  (wpAny_call_entry F.slot_zip_next hT F.entry_zip_next
    (DS hh D p1 p2 hz Ip Iq h1 h2 hx hy fun x y h' tk q1 q2 a1 a2 a3 a4 a5 a6 a7=>wpAny_pure (hQ x y h' tk q1 q2 a1 a2 a3 a4 a5 a6 a7)) (F.args_zip_next_1 _))))
theorem o5 {k:Nat} {a b:Value} {Q:Option Value→Shared→Prop} (hh:A.handled=none) (D:Apart z TI TO i1 i2 o4 n9) (p1:Part prog w i1 o4 n1 P1 S1) (p2:Part prog w i2 n9 n2 P2 S2)
  (hz:IsZip s.heap z TI TO .none) (Ip:IsPair s.heap TI (.ref i1) (.ref i2)) (Iq:IsPair s.heap TO a b) (h1:S1 k s.heap) (h2:S2 k s.heap) (M0:k=n1∨(k < n1∧k=n2))
  (hQ:∀ h' tk,(∀ c o,c≠z→c≠TO→c≠i1→c≠i2→s.heap.get? c=some o→h'.get? c=some o)→Q none { s with heap:=h',toks:=tk }):wpAny (model prog w) A (pyNext (.ref z)) Q E s:=by
 have hT:s.TypeIs (.ref z) "zip":=⟨_,hz,rfl⟩
 unfold pyNext
 refine wpAny_bind (wpAny_attempt (wpAny_callSpecial?_slot (name:=Str.ofString "__next__") hT F.slot_zip_next
  (wpAny_call_entry F.slot_zip_next hT F.entry_zip_next (Iv hh D p1 p2 hz Ip Iq h1 h2 M0 fun h' tk e hk he=>?_) (F.args_zip_next_1 _))))
 obtain ⟨o,ho,hc⟩:=he
 refine wpAny_bind (wpAny_isInstance (T:="StopIteration") (b:=true) ⟨o,ho,hc⟩ isSubtype_stop ?_)
 exact wpAny_pure (hQ _ _ hk)
end
section
variable {X:Cx}
end
section
variable {X:Cx} {Z:Zc} {a b:Expr} {fa fb:FE} {pos:Pos}
end
noncomputable def ju (v:Value) (o:Obj) (c:Heap→Prop):Prop:=∀ (prog:Program) (w:World) (A:Around) (E:Value→Shared→Prop) (s:Shared) (Q:Value→Shared→Prop),c s.heap →
 Q (.ref s.heap.objs.size) { s with heap:=s.heap.push o }→wpAny (model prog w) A (pyIter v) Q E s
theorem vE (l:Addr) (items:Array Value):ju (.ref l) { cls:=.type "list_iterator",data:=.fields #[.ref l,.int 0 0] } (fun h=>h.IsList l items):=fun _ _ _ _ _ _ h q=>wpAny_pyIter_list h q
theorem tu (l:Addr) (items:Array Value):ju (.ref l) { cls:=.type "tuple_iterator",data:=.fields #[.ref l,.int 0 0] } (fun h=>h.IsTuple l items):=fun _ _ _ _ _ _ h q=>wpAny_pyIter_tuple h q
theorem yl (x:Str) (t:Tok):ju (.str x t) { cls:=.type (strIterType x),data:=.fields #[.str x t,.int 0 0] } (fun _=>True):=fun _ _ _ _ _ _ _ q=>wpAny_pyIter_strU q
noncomputable abbrev Vz (h:Heap) (o1 o2:Obj):Heap:=((h.push o1).push o2).push { cls:=.type "tuple",data:=.seq #[.ref h.objs.size,.ref (h.push o1).objs.size] }
noncomputable abbrev VB (h:Heap) (o1 o2:Obj):Heap:=(Vz h o1 o2).push { cls:=.type "tuple",data:=.seq #[.none,.none] }
noncomputable abbrev M7 (h:Heap) (o1 o2:Obj):Heap:=(VB h o1 o2).push { cls:=.type "zip",data:=.fields #[.none,.bool false,.bool false,.ref ((h.push o1).push o2).objs.size,.ref (Vz h o1 o2).objs.size] }
theorem ym {v1 v2:Value} {o1 o2:Obj} {c1 c2:Heap→Prop} (i1:ju v1 o1 c1) (i2:ju v2 o2 c2) (M8:∀ h o,c2 h→c2 (h.push o)) :
  Meets (Builtin.«zip.__new__» ⟨[.type "zip",v1,v2],[]⟩) (fun _ R s=>c1 s.heap∧c2 s.heap ∧
   R (.ok (.ret (.ref (VB s.heap o1 o2).objs.size))) { s with heap:=M7 s.heap o1 o2 }) :=
 .of_wp fun prog w A R s h=>by
  obtain ⟨hp,g,d,tk,os⟩:=s; obtain ⟨VF,Cz,h⟩:=h
  have DU:=sub_zip
  have hC2:=M8 _ o1 Cz
  have I1:∀ (A:Around) (E:Value→Shared→Prop) (Q:Value→Shared→Prop),Q (.ref hp.objs.size) ⟨hp.push o1,g,d,tk,os⟩→wpAny (model prog w) A (pyIter v1) Q E ⟨hp,g,d,tk,os⟩:=fun A E Q q=>i1 prog w A E _ Q VF q
  have I2:∀ (A:Around) (E:Value→Shared→Prop) (Q:Value→Shared→Prop),Q (.ref (hp.push o1).objs.size) ⟨(hp.push o1).push o2,g,d,tk,os⟩→wpAny (model prog w) A (pyIter v2) Q E ⟨hp.push o1,g,d,tk,os⟩:=fun A E Q q=>i2 prog w A E _ Q hC2 q
  wp_walk using I1,I2
  exact ⟨_,rfl,h⟩
section
variable {prog:Program} {w:World} {A:Around} {E:Value→Shared→Prop} {s:Shared}
theorem A8 {v1 v2:Value} {o1 o2:Obj} {c1 c2:Heap→Prop} {Q:Value→Shared→Prop} (i1:ju v1 o1 c1) (i2:ju v2 o2 c2) (M8:∀ h o,c2 h→c2 (h.push o)) (h1:c1 s.heap) (h2:c2 s.heap) (XW:o1.isFreed=false) (M9:o2.isFreed=false)
  (h:∀ h',IsZip h' (s.heap.objs.size+4) (s.heap.objs.size+2) (s.heap.objs.size+3) .none→IsPair h' (s.heap.objs.size+2) (.ref s.heap.objs.size) (.ref (s.heap.objs.size+1)) →
    IsPair h' (s.heap.objs.size+3) .none .none→h'.get? s.heap.objs.size=some o1→h'.get? (s.heap.objs.size+1)=some o2→h'.objs.size=s.heap.objs.size+5 →
    (∀ c o,s.heap.get? c=some o→h'.get? c=some o)→Q (.ref (s.heap.objs.size+4)) { s with heap:=h' }) :
  wpAny (model prog w) A (call (.type "zip") [v1,v2]) Q E s:=by
 refine callType_new F.called_zip (by decide) (F.typeCall_zip_2 _ _) (F.newCall_zip_2 _ _) (fun obj=>F.args_object_init_3 obj _ _) F.entry_zip_new
  (ym i1 i2 M8) ⟨h1,h2,?_⟩
 have z1:(s.heap.push o1).objs.size=s.heap.objs.size+1:=xy ..
 have z2:((s.heap.push o1).push o2).objs.size=s.heap.objs.size+2:=by rw [xy,z1]
 have z3:(Vz s.heap o1 o2).objs.size=s.heap.objs.size+3:=by rw [xy,z2]
 have z4:(VB s.heap o1 o2).objs.size=s.heap.objs.size+4:=by rw [xy,z3]
 have z5:(M7 s.heap o1 o2).objs.size=s.heap.objs.size+5:=by rw [xy,z4]
 have g5:(M7 s.heap o1 o2).get? (VB s.heap o1 o2).objs.size=some _:=mZ _ rfl
 have g4:(M7 s.heap o1 o2).get? (Vz s.heap o1 o2).objs.size=some _:=fF _ (mZ _ rfl)
 have g3:(M7 s.heap o1 o2).get? ((s.heap.push o1).push o2).objs.size=some _:=fF _ (fF _ (mZ _ rfl))
 have g2:(M7 s.heap o1 o2).get? (s.heap.push o1).objs.size=some _:=fF _ (fF _ (fF _ (mZ _ M9)))
 have g1:(M7 s.heap o1 o2).get? s.heap.objs.size=some _:=fF _ (fF _ (fF _ (fF _ (mZ _ XW))))
 show _∧_
 rw [z2,z3,z4] at g5
 rw [z1,z2] at g3
 rw [z3] at g4
 rw [z1] at g2
 rw [z4]
 exact ⟨⟨_,g5,rfl⟩,h _ g5 g3 g4 g1 g2 z5 fun c o x =>
  fF _ (fF _ (fF _ (fF _ (fF _ x))))⟩
end
structure A9 (P:Program) (w:World) (K:PySem.W.Frag) (i:Addr) (fp:List Addr) (sq:Hp→List V→Prop) (it:Nat→Heap→Prop):Prop where
 part:∀ (X:Cx) (pins:List (Addr×Obj)) (σ:St) (H:Hp) (s:Shared),X.prog=P→X.w=w→X.K=K→Inv X pins σ H s→∀ xs,sq H xs →
  ∃ (Pv:Nat→Value→Prop) (S:Nat→Heap→Prop),Part P w i fp xs.length Pv S∧(∀ k v,Pv k v→∃ x,xs[k]?=some x∧RelV x v)∧(∀ k h,S k h→it k h)∧∀ k,it k s.heap→S k s.heap
 keep:∀ k h h',it k h→(∀ o,h.get? i=some o→h'.get? i=some o)→it k h'
 obj:∀ k h,it k h→∃ o,h.get? i=some o∧∀ v,o.data≠.cell v
 inj:∀ (X:Cx) (pins:List (Addr×Obj)) (σ:St) (H:Hp) (s:Shared),X.K=K→Inv X pins σ H s→∀ xs ys,sq H xs→sq H ys→xs=ys
theorem src_list {P:Program} {w:World} {K:PySem.W.Frag} (i l:Addr) (gG:l≠i):A9 P w K i [i,l] (fun H xs=>gy K H l xs) (fun k h=>h.IsListIter i l k) where
 part:=fun X pins σ H s hP hw hK I xs hq=>by
  subst hP hw hK
  obtain ⟨aP,rv,p,hz⟩:=I.list hq
  have e:aP.toArray.size=xs.length:=by simp [rv.length]
  refine ⟨_,_,e▸A7 i l gG aP.toArray,fun k v hv=>?_,fun k h st=>st.1,fun k st=>⟨st,p.isList⟩⟩
  have uZ:aP[k]?=some v:=by simpa using hv
  have hk:k < xs.length:=by rw [← e]; simp; exact (cn.mp uZ).1
  obtain ⟨u,hu,ru⟩:=rv.get (show xs[k]?=some xs[k] by simp)
  rw [uZ] at hu
  cases hu
  exact ⟨_,by simp,ru⟩
 keep:=fun k h h' st q=>st.at q
 obj:=fun k h st=>let ⟨o,e,_,d⟩:=st; ⟨o,e,fun v z=>by rw [d] at z; cases z⟩
 inj:=fun X pins σ H s hK I xs ys h1 h2=>by subst hK; exact I.kG h1 h2
theorem src_tuple {P:Program} {w:World} {K:PySem.W.Frag} (i l:Addr) (gG:l≠i):A9 P w K i [i,l] (fun H xs=>dZ K H l xs) (fun k h=>h.IsTupleIter i l k) where
 part:=fun X pins σ H s hP hw hK I xs hq=>by
  subst hP hw hK
  obtain ⟨aP,rv,p,hz⟩:=I.tuple hq
  have e:aP.toArray.size=xs.length:=by simp [rv.length]
  refine ⟨_,_,e▸yk i l gG aP.toArray,fun k v hv=>?_,fun k h st=>st.1,fun k st=>⟨st,p⟩⟩
  have uZ:aP[k]?=some v:=by simpa using hv
  have hk:k < xs.length:=by rw [← e]; simp; exact (cn.mp uZ).1
  obtain ⟨u,hu,ru⟩:=rv.get (show xs[k]?=some xs[k] by simp)
  rw [uZ] at hu
  cases hu
  exact ⟨_,by simp,ru⟩
 keep:=fun k h h' st q=>let ⟨o,e,r⟩:=st; ⟨o,q o e,r⟩
 obj:=fun k h st=>let ⟨o,e,_,d⟩:=st; ⟨o,e,fun v z=>by rw [d] at z; cases z⟩
 inj:=fun X pins σ H s hK I xs ys h1 h2=>by subst hK; exact I.lW h1 h2
noncomputable def yn (x:Str):List V:=x.cps.toList.map fun c=>.str ⟨#[c]⟩
theorem Iw {P:Program} {w:World} {K:PySem.W.Frag} (i:Addr) (x:Str) (t:Tok):A9 P w K i [i] (fun _ xs=>xs=yn x) (fun k h=>h.IsStrIter i (strIterType x) x t k) where
 part:=fun X pins σ H s hP hw hK I xs hq=>by
  subst hP hw hK hq
  have e:x.cps.size=(yn x).length:=by unfold yn; simp
  refine ⟨_,_,e▸DR i x t,fun k v hv=>?_,fun k h st=>st,fun k st=>st⟩
  obtain ⟨c,u,h1,rfl⟩:=hv
  exact ⟨.str ⟨#[c]⟩,by unfold yn; rw [gw]; simp [h1],u,rfl⟩
 keep:=fun k h h' st q=>let ⟨o,e,r⟩:=st; ⟨o,q o e,r⟩
 obj:=fun k h st=>let ⟨o,e,_,d⟩:=st; ⟨o,e,fun v z=>by rw [d] at z; cases z⟩
 inj:=fun X pins σ H s hK I xs ys h1 h2=>by rw [h1,h2]
section
variable {X:Cx} {pins:List (Addr×Obj)} {σ:St} {H H':Hp} {s:Shared} {h':Heap}
theorem Iy {t':Nat} {ch:List Addr} (I:Inv X pins σ H s) (k:∀ b u,b∉ch→s.heap.get? b=some u→h'.get? b=some u) (hf:∀ b∈ch,lZ X pins H b):Inv X pins σ H { s with heap:=h',toks:=t' }:=by
 have CP:∀ b u,H b=some u→b∉ch:=fun b u e z=>by rw [(hf b z).1] at e; cases e
 refine I.step (g':=s.gens) (d':=s.drawn) (ch:=ch) (fun b hb=>?_) (fun b u _ _ hc e _=>k b u hc e) (fun b u _ _ hc e _=>⟨u.slots,k b u hc e⟩) (fun b u _ e n=>n) (fun b u hc e=>⟨u,k b u hc e⟩)
  (fun b xs e=>e) (fun b u v e=>e) (fun b ps e=>⟨#[],?_⟩) (fun m hm=>?_) (fun b u e=>?_) I.bare
 · obtain ⟨_,f1,_,f3,f4,f5⟩:=hf b hb
   exact ⟨f3,f1,f4,f5⟩
 · rw [e]; simp
 · obtain ⟨ob,es,ep,ho,r⟩:=hm
   exact ⟨ob,es,ep,k _ ob (fun z=>(hf _ z).2.1 rfl) ho,r⟩
 · refine (I.bV b u e).xJ (fun c v hc q=>k c v ?_ q) (fun c q=>q) fun c xs q=>q
   rcases hc with z | z
   · rw [z]; exact CP b u e
   · exact CP c _ z
end
noncomputable def XY (yo yp:Hp→List V→Prop):It :=
 ⟨fun i H=>∃ xs ys,yo H xs∧yp H ys∧i < xs.length∧i < ys.length,fun i H v H'=>∃ t x y,H t=none∧v = .ref t∧(∀ xs,yo H xs→xs[i]?=some x)∧(∀ ys,yp H ys→ys[i]?=some y)∧H'=upd H t (.tup [x,y]),
   fun i H=>∃ xs ys,yo H xs∧yp H ys∧(i=xs.length∨(i < xs.length∧i=ys.length))⟩
theorem DV {P:Program} {w:World} {K:PySem.W.Frag} {elts:List Expr} {x1} {tp:Pos} {z TI TO i1 i2:Addr} {o4 n9:List Addr} {yo yp:Hp→List V→Prop} {t1 t2:Nat→Heap→Prop} (D:Apart z TI TO i1 i2 o4 n9) (p1:A9 P w K i1 o4 yo t1) (p2:A9 P w K i2 n9 yp t2) :
  Turn P w K (.Tuple elts x1 tp) (XY yo yp) [z,TI,TO,i1,i2] z (fun i h=>IsZip h z TI TO .none∧IsPair h TI (.ref i1) (.ref i2)∧(∃ a b,IsPair h TO a b)∧t1 i h∧t2 i h) where
 mem:=by simp
 obj:=fun i h st b hb=>by
  obtain ⟨h1,h2,⟨a,c,h3⟩,h4,h5⟩:=st
  simp only [cZ,fG,or_false] at hb
  rcases hb with rfl | rfl | rfl | rfl | rfl
  · exact ⟨_,h1,fun v q=>by cases q⟩
  · exact ⟨_,h2,fun v q=>by cases q⟩
  · exact ⟨_,h3,fun v q=>by cases q⟩
  · exact p1.obj i h h4
  · exact p2.obj i h h5
 keep:=fun i h h' st k=>by
  obtain ⟨h1,h2,⟨a,c,h3⟩,h4,h5⟩:=st
  exact ⟨k z (by simp) _ h1,k TI (by simp) _ h2,⟨a,c,k TO (by simp) _ h3⟩,p1.keep i h h' h4 fun o q=>k i1 (by simp) o q,p2.keep i h h' h5 fun o q=>k i2 (by simp) o q⟩
 item:=by
  intro X hP hw hK hc i pins s σ H E I hf st hg
  obtain ⟨xs,ys,VH,VJ,l1,l2⟩:=hg
  obtain ⟨h1,h2,⟨a,c,h3⟩,h4,h5⟩:=st
  obtain ⟨P1,S1,q1,v1,b1,f1⟩:=p1.part X pins σ H s hP hw hK I xs VH
  obtain ⟨P2,S2,q2,v2,b2,f2⟩:=p2.part X pins σ H s hP hw hK I ys VJ
  refine nO (I.ok.hd hc) D q1 q2 h1 h2 h3 (f1 i h4) (f2 i h5) l1 l2 fun x y h₁ tk px py Dq XZ s1 s2 hp₁ zv hk=>?_
  obtain ⟨x',ex,rx⟩:=v1 i x px
  obtain ⟨y',ey,ry⟩:=v2 i y py
  refine ⟨_,rfl,wpAny_letOwnedTupleGo_zip Dq fun h₂ Vy qo=>?_⟩
  have qp:Heap.SameBut z h₁ h₂:=qo
  have gz:z < s.heap.objs.size:=fM h1
  have Xg:s.heap.objs.size≠z:=Gz gz
  have kk:∀ b ob,b∉[z,TI,TO,i1,i2]→s.heap.get? b=some ob→h₂.get? b=some ob:=fun b ob hb q=>by
   simp only [cZ,fG,or_false,not_or] at hb
   exact (qp.2 b hb.1).trans (hk b ob hb.1 hb.2.2.1 hb.2.2.2.1 hb.2.2.2.2 q)
  have new:bX X.prog X.w (upd H s.heap.objs.size (.tup [x',y'])) h₂ s.heap.objs.size (.tup [x',y']) :=
   ⟨by show 2≤sizeLine; rw [sizeLine_eq]; decide,[x,y],.cons rx (.cons ry .nil),⟨_,(qp.2 _ Xg).trans hp₁,rfl,_,rfl⟩⟩
  refine ⟨.ref s.heap.objs.size,upd H s.heap.objs.size (.tup [x',y']),I.grown (t':=tk) kk hf (cA _) new,rfl,⟨_,x',y',I.fresh,rfl,fun zs hz=>by rw [p1.inj X pins σ H s hK I _ _ hz VH]; exact ex,fun zs hz=>by rw [p2.inj X pins σ H s hK I _ _ hz VJ]; exact ey,rfl⟩,⟨Vy,?_,⟨x,y,?_⟩,?_,?_⟩,fun b hb=>?_⟩
  · exact (qp.2 TI D.TIz).trans (hk TI _ D.TIz D.TITO D.TIi1 D.TIi2 h2)
  · exact (qp.2 TO D.TOz).trans XZ
  · exact p1.keep _ _ _ (b1 _ _ s1) fun o q=>(qp.2 i1 D.i1z).trans q
  · exact p2.keep _ _ _ (b2 _ _ s2) fun o q=>(qp.2 i2 D.i2z).trans q
  · have Vo:b < s.heap.objs.size:=by
     simp only [cZ,fG,or_false] at hb
     rcases hb with rfl | rfl | rfl | rfl | rfl
     · exact gz
     · exact fM h2
     · exact fM h3
     · obtain ⟨o,e,_⟩:=p1.obj i _ h4; exact fM e
     · obtain ⟨o,e,_⟩:=p2.obj i _ h5; exact fM e
    rw [aW (je Vo)]
    exact (hf b hb).1
 done:=by
  intro X hP hw hK hc i pins s σ H E I hf st hg
  obtain ⟨xs,ys,VH,VJ,he⟩:=hg
  obtain ⟨h1,h2,⟨a,c,h3⟩,h4,h5⟩:=st
  obtain ⟨P1,S1,q1,v1,b1,f1⟩:=p1.part X pins σ H s hP hw hK I xs VH
  obtain ⟨P2,S2,q2,v2,b2,f2⟩:=p2.part X pins σ H s hP hw hK I ys VJ
  refine o5 (I.ok.hd hc) D q1 q2 h1 h2 h3 (f1 i h4) (f2 i h5) he fun h' tk hk=>⟨rfl,?_⟩
  refine Iy (t':=tk) I (fun b u hb q=>?_) hf
  simp only [cZ,fG,or_false,not_or] at hb
  exact hk b u hb.1 hb.2.2.1 hb.2.2.2.1 hb.2.2.2.2 q
 self:=fun _ _ _ _ _ st h=>by
  obtain ⟨h1,_⟩:=st
  exact wpAny_pyIter_zip h1 h
inductive ZK (K:PySem.W.Frag) (H:Hp):V→(Hp→List V→Prop)→Prop where
 | lst {a:Addr} {xs:List V}:gy K H a xs→ZK K H (.ref a) (fun H xs=>gy K H a xs)
 | tup {a:Addr} {xs:List V}:dZ K H a xs→ZK K H (.ref a) (fun H xs=>dZ K H a xs)
 | str (z:Str):ZK K H (.str z) (fun _ xs=>xs=yn z)
theorem KC {X:Cx} {pins:List (Addr×Obj)} {σ:St} {H:Hp} {s:Shared} {x:V} {u:Value} {sq:Hp→List V→Prop} (I:Inv X pins σ H s) (z:ZK X.K H x sq) (r:RelV x u) :
  ∃ (o:Obj) (c:Heap→Prop) (fp:List Addr) (it:Addr→Nat→Heap→Prop),ju u o c∧c s.heap∧(∀ h o,c h→c (h.push o))∧o.isFreed=false∧(∀ b∈fp,b < s.heap.objs.size) ∧
   ∀ i,s.heap.objs.size≤i→A9 X.prog X.w X.K i (i :: fp) sq (it i)∧∀ h,h.get? i=some o→it i 0 h:=by
 cases z with
 | lst hq =>
   rename_i a xs
   cases r
   obtain ⟨aP,rv,p,hz⟩:=I.list hq
   have hl:a < s.heap.objs.size:=by obtain ⟨o,n,e,_⟩:=p; exact fM e
   refine ⟨_,_,[a],fun i k h=>h.IsListIter i a k,vE a aP.toArray,p.isList,fun h o q=>Heap.IsList.push q _,rfl,fun b hb=>by rw [ou.mp hb]; exact hl,fun i hi=>⟨src_list i a (je (rf hl hi)),fun h e=>⟨_,e,rfl,rfl⟩⟩⟩
 | tup hq =>
   rename_i a xs
   cases r
   obtain ⟨aP,rv,p,hz⟩:=I.tuple hq
   have hl:a < s.heap.objs.size:=by obtain ⟨o,e,_⟩:=p; exact fM e
   refine ⟨_,_,[a],fun i k h=>h.IsTupleIter i a k,tu a aP.toArray,p,fun h o q=>(let ⟨o',e,r⟩:=q; ⟨o',fF _ e,r⟩),rfl,fun b hb=>by rw [ou.mp hb]; exact hl,fun i hi=>⟨src_tuple i a (je (rf hl hi)),fun h e=>⟨_,e,rfl,rfl⟩⟩⟩
 | str z =>
   obtain ⟨t,rfl⟩:=r
   refine ⟨_,_,[],fun i k h=>h.IsStrIter i (strIterType z) z t k,yl z t,trivial,fun _ _ _=>trivial,rfl,fun b hb=>?_,fun i hi=>⟨Iw i z t,fun h e=>⟨_,e,rfl,rfl⟩⟩⟩
   cases hb
theorem nn {a b:Nat} (h:a < b):a≠b:=je h
theorem DW {n:Nat} {o4 n9:List Addr} (h1:∀ b∈o4,b < n) (h2:∀ b∈n9,b < n):Apart (n+4) (n+2) (n+3) n (n+1) (n :: o4) ((n+1) :: n9):=by
 have k1:∀ b:Nat,n < b→b∉(n :: o4):=fun b hb m=>by
  rcases cZ.mp m with q | q
  · exact Gz hb q
  · exact Cr _ (Nat.lt_trans hb (h1 b q))
 have k2:∀ b:Nat,n+1 < b→b∉((n+1) :: n9):=fun b hb m=>by
  rcases cZ.mp m with q | q
  · exact Gz hb q
  · exact Cr _ (Nat.lt_trans (Nat.lt_trans (xv n) hb) (h2 b q))
 have k3:n∉((n+1) :: n9):=fun m=>by
  rcases cZ.mp m with q | q
  · exact je (xv n) q
  · exact Cr _ (h2 n q)
 exact ⟨nn (by omega),nn (by omega),nn (by omega),nn (by omega),nn (by omega),(nn (by omega)).symm,(nn (by omega)).symm,(nn (by omega)).symm,(nn (by omega)).symm,nn (by omega),k1 _ (by omega),k2 _ (by omega),k1 _ (by omega),k2 _ (by omega),k1 _ (by omega),k3⟩
theorem Iz {n c:Nat} (h:c∈[n+4,n+2,n+3,n,n+1]):n≤c:=by
 simp only [cZ,fG,or_false] at h
 omega
noncomputable def X0 (K:PySem.W.Frag) (ta:TA):TI:=fun σ H R=>ta σ H fun vs H1=>∃ x y yo yp,vs=[x,y]∧ZK K H1 x yo∧ZK K H1 y yp∧R (XY yo yp) H1
section
variable {X:Cx} {Z:Zc}
theorem boot_zip:bootBuiltins "zip" = some (.type "zip"):=by decide +kernel
theorem M_ {elts:List Expr} {x1} {tp:Pos} {a b:Expr} {ta:TA} {p pos:Pos} (hg:Gl X "zip") (hm:X.mg "zip" = none) (ha:PA X [a,b] ta) (hs:starEach [a,b] X.env=[(false,eval a X.env),(false,eval b X.env)]) (rn:starEach [b] X.env=[(false,eval b X.env)]) :
  PI X (.Tuple elts x1 tp) (.Call (.Name "zip" p) [a,b] [] pos) (X0 X.K ta):=by
 intro pins s σ H R I h
 refine Call_ (j9 I hg hm boot_zip (PL (cb (ha pos pins s σ H _ I h) fun us s1 ⟨vs,H1,I1,r1,q1⟩=>?_) (by rw [hs,rn]) (by rw [rn]; rfl)))
 obtain ⟨x,y,yo,yp,e,k1,k2,q⟩:=q1
 subst e
 obtain ⟨u,w',rfl,ru,rw'⟩:=vals2 r1
 obtain ⟨o1,c1,o4,t1,i1,VF,hp1,XW,A_,z1⟩:=KC I1 k1 ru
 obtain ⟨o2,c2,n9,t2,i2,Cz,M8,M9,yq,z2⟩:=KC I1 k2 rw'
 refine A8 i1 i2 M8 VF Cz XW M9 fun h' hz Ip Iq g1 g2 zv hk=>?_
 have I2:Inv X pins σ H1 { s1 with heap:=h' }:=I1.kept (t':=s1.toks) hk
 refine wpAny_pyIter_zip hz ?_
 obtain ⟨S1,a1⟩:=z1 s1.heap.objs.size (cA _)
 obtain ⟨S2,a2⟩:=z2 (s1.heap.objs.size+1) (Lo _)
 have D:Apart (s1.heap.objs.size+4) (s1.heap.objs.size+2) (s1.heap.objs.size+3) s1.heap.objs.size (s1.heap.objs.size+1) (s1.heap.objs.size :: o4) ((s1.heap.objs.size+1) :: n9):=by
  exact DW A_ yq
 refine ⟨s1.heap.objs.size+4,_,_,_,H1,rfl,I2,DV D S1 S2,⟨hz,Ip,⟨_,_,Iq⟩,a1 _ g1,a2 _ g2⟩,fun c hc=>?_,q⟩
 have hge:s1.heap.objs.size≤c:=Iz hc
 exact I1.qi hge (I1.bV.fresh hge)
noncomputable def M':T→Option (List T)
 | .lst ts=>some ts
 | .tup ts=>some ts
 | .str z=>some (z.cps.toList.map fun c=>.str ⟨#[c]⟩)
 | _=>none
noncomputable def jU (xs ys:List T):List T:=List.zipWith (fun a b=>.tup [a,b]) xs ys
noncomputable def X1 (fa fb:FE):FI:=fun ρ Q=>fa ρ fun x=>fb ρ fun y=>match M' x,M' y with
 | some xs,some ys=>Q (jU xs ys)
 | _,_=>False
theorem KD {K:PySem.W.Frag} {H:Hp} {A:List Addr} {x:T} {v:V} {xs:List T} (h:At K H A x v) (e:M' x=some xs):∃ sq,ZK K H v sq∧∀ H A,At K H A x v→∃ vs,sq H vs∧aA K H A xs vs:=by
 cases x with
 | lst ts =>
   cases e
   simp only [At] at h
   obtain ⟨a,vs,rfl,l,q⟩:=h
   refine ⟨_,.lst l.sq,fun H A h=>?_⟩
   simp only [At] at h
   obtain ⟨a',kz,e,l',q'⟩:=h
   cases e
   exact ⟨kz,l'.sq,q'⟩
 | tup ts =>
   cases e
   simp only [At] at h
   obtain ⟨a,vs,rfl,l,q⟩:=h
   refine ⟨_,.tup l,fun H A h=>?_⟩
   simp only [At] at h
   obtain ⟨a',kz,e,l',q'⟩:=h
   cases e
   exact ⟨kz,l',q'⟩
 | str z =>
   cases e
   simp only [At] at h
   subst h
   refine ⟨_,.str z,fun H A h=>⟨yn z,rfl,?_⟩⟩
   unfold yn
   generalize z.cps.toList=l
   induction l with
   | nil=>exact aA.nil
   | cons c l ih=>exact aA.cons bJ ih
 | _=>cases e
theorem Na {K:PySem.W.Frag} {x y:T} {v w:V} {xs ys:List T} {yo yp:Hp→List V→Prop} (h1:∀ H A,At K H A x v→∃ vs,yo H vs∧aA K H A xs vs) (h2:∀ H A,At K H A y w→∃ vs,yp H vs∧aA K H A ys vs) :
  Wk K (XY yo yp) [(x,v),(y,w)] (jU xs ys):=fun H A hA h i=>by
 obtain ⟨vs,q1,l1⟩:=h1 H A (h _ iw)
 obtain ⟨ws,q2,l2⟩:=h2 H A (h _ (jc _ iw))
 have e1:=l1.length
 have e2:=l2.length
 have el:(jU xs ys).length=min xs.length ys.length:=by unfold jU; rw [List.length_zipWith]
 rw [el]
 refine ⟨fun hi=>⟨vs,ws,q1,q2,by omega,by omega⟩,fun hi=>⟨vs,ws,q1,q2,by omega⟩,fun t ht x H' y=>?_⟩
 obtain ⟨p,a,b,hp,rfl,ha,hb,rfl⟩:=y
 unfold jU at ht
 rw [List.getElem?_zipWith] at ht
 cases ex:xs[i]? with
 | none=>rw [ex] at ht; cases ht
 | some tx =>
   cases ey:ys[i]? with
   | none=>rw [ex,ey] at ht; cases ht
   | some ty =>
     rw [ex,ey] at ht
     cases ht
     obtain ⟨v1,g1,g2⟩:=l1.get ex
     obtain ⟨v2,g3,g4⟩:=l2.get ey
     have z1:=ha vs q1
     have z2:=hb ws q2
     rw [g1] at z1
     rw [g3] at z2
     cases z1
     cases z2
     exact ⟨aU hp,bu (dZ.of a_) (aA.cons (g2.same (aU hp)) (aA.cons (g4.same (aU hp)) aA.nil))⟩
theorem DX {elts:List Expr} {x1} {tp p pos:Pos} {a b:Expr} {fa fb:FE} (hg:Gl X "zip") (hm:X.mg "zip" = none) (ha:VE X Z a fa) (hb:VE X Z b fb)
  (hs:starEach [a,b] X.env=[(false,eval a X.env),(false,eval b X.env)]:=by rfl) (rn:starEach [b] X.env=[(false,eval b X.env)]:=by rfl) :
  VI X Z (.Tuple elts x1 tp) (.Call (.Name "zip" p) [a,b] [] pos) (X1 fa fb):=.mk fun tm =>
 PI.weak (M_ hg hm (bS (ha tm) (bS (hb tm) d6 rn) (by rw [hs,rn])) hs rn) fun σ H R ⟨ρ,O,q,I,hf,k⟩=>⟨ρ,O,_,I,hf,fun x hx v H1 s1 a1=>⟨ρ,O,_,I.same s1,hx,fun y hy w H2 s2 a2=>by
  split at hy
  · rename_i xs ys e1 e2
    obtain ⟨yo,k1,w1⟩:=KD (a1.same s2) e1
    obtain ⟨yp,k2,w2⟩:=KD a2 e2
    exact ⟨v,w,yo,yp,rfl,k1,k2,k _ hy _ H2 _ (s1.trans s2) (fun p hp=>by
     rcases cZ.mp hp with e | hp
     · rw [e]; exact a1.same s2
     · rw [ou.mp hp]; exact a2) (Na w1 w2)⟩
  · exact hy.elim⟩⟩
end
end VT
namespace HD
open PySem PySem.W PySem.Calls PyProof.Rows
noncomputable def n_ (tb:String→Option Builtin) (p:Program) (w:World) (n₀:Nat) (ann:Option Value):Nat→SharedT→Thread→Option SharedT
 | 0,_,_=>none
 | n+1,s,t=>match through t with
   | true=>some s
   | false=>match stepOk n₀ ann t with
     | false=>none
     | true=>match stepT (denote tb) p w s t with
       | some (s',t')=>n_ tb p w n₀ ann n s' t'
       | none=>none
theorem rK {tb:String→Option Builtin} {p:Program} {w:World} {n₀:Nat} {ann:Option Value}:∀ {n:Nat} {s s':SharedT} {t:Thread},n_ tb p w n₀ ann n s t=some s'→topRun tb p w n₀ ann n s.abs t=some s'.abs
 | 0,_,_,_,h=>by cases h
 | n+1,s,s',t,h=>by
   unfold n_ at h
   unfold topRun
   cases ht:through t with
   | true=>rw [ht] at h; cases h; rfl
   | false =>
     rw [ht] at h
     cases hk:stepOk n₀ ann t with
     | false=>rw [hk] at h; cases h
     | true =>
       rw [hk] at h
       cases hs:stepT (denote tb) p w s t with
       | none=>rw [hs] at h; cases h
       | some r=>obtain ⟨s₂,t₂⟩:=r; rw [hs] at h; rw [stepT_spec hs]; exact rK h
noncomputable def mkT (l:List Obj):BT:=(l.foldl (fun (p:BT×Nat) o=>(p.1.ins p.2 o,p.2+1)) (.nil,0)).1
noncomputable def m9 (P:Params):BT:=mkT (boot_heap P).objs.toList
noncomputable def st0 (T:BT) (os:OsState):SharedT:=⟨T,11,{},Array.mk [],boot_drawn,boot_toks,os⟩
theorem boot_abs (P:Params):absHeap (m9 P) 11 {}=boot_heap P:=by kernel_rfl
theorem Ba (P:Params):((boot_heap P).isNs mainGlobals,(boot_heap P).objs.size,(boot_heap P).nsMap mainGlobals "__annotations__")=(true,11,some (.ref 6)):=by kernel_rfl
noncomputable def X2 (p:Program) (T:BT) (w:World) (M:Nat) (os:OsState):Option SharedT:=n_ treeTable p w 11 (some (.ref 6)) M (st0 T os) (topStub p)
noncomputable def Kf (as:List Addr) (g:Addr→Option Obj):Frag:=as.filterMap fun a=>(g a).map fun o=>(a,o)
noncomputable abbrev Pj (q:Program) (lv:List (Str×WData)) (R:WRecords) (s:Shared):Bool:=xlAt q lv s && recOk R s
noncomputable def Nb (p q:Program) (loose:List Str) (lv:List (Str×WData)) (R:WRecords) (H0:Heap) (s:Shared) :=
 ((staticsOk (importedModules p.main.body) H0 s.heap && namesBound p s.heap && gensDone s && laidKept H0 s.heap),openSeen q loose (importedModules p.main.body) (Pj q lv R) true s)
noncomputable def whole {β:Type} (p q:Program) (loose:List Str) (lv:List (Str×WData)) (R:WRecords) (as:List Addr) (F:Frag→β) (T:BT) (H0:Heap) (w:World) (M:Nat) (os:OsState) :=
 (X2 p T w M os).map fun s=>(Nb p q loose lv R H0 s.abs,F (Kf as s.abs.heap.get?))
noncomputable def tw (p:Program) (N:Nat) (w:World) (a:Addr):Option Obj:=(openEnds treeTable p w N).bind (·.heap.get? a)
theorem head {p q:Program} {loose:List Str} {lv:List (Str×WData)} {R:WRecords} {as:List Addr} {N M:Nat} {β:Type} {F:Frag→β} {v:World→β}
  (e:opening p=plainProg p.main.scope.names) (hN:Nat.ble 600 N=true) (f:∀ s,fenceModules? p s=some s) (le:Nat.ble M N=true)
  (run:∀ (w:World) (os:OsState),whole p q loose lv R as F (m9 w.params) (boot_heap w.params) w M os=some ((true,openGood q loose),v w)) :
  LeftO p q loose (Pj q lv R) (fun s=>as.map s.heap.get?) (fun w=>as.map (tw p N w)) N∧∀ w,F (Kf as (tw p N w))=v w:=by
 have key:∀ w,∃ s,openEnds treeTable p w N=some s∧openSeen q loose (importedModules p.main.body) (Pj q lv R) true s=openGood q loose∧F (Kf as s.heap.get?)=v w:=fun w=>by
  obtain ⟨⟨h,gs,d,k,os⟩,e1,e2⟩:=U2.mp (boot_open e hN f w)
  obtain ⟨rfl,rfl,rfl,rfl⟩:h=boot_heap w.params∧gs=Array.mk []∧d=boot_drawn∧k=boot_toks:=by simpa using e2
  obtain ⟨s,r1,r2⟩:=U2.mp (run w os)
  have r3:=congrArg (fun x=>x.1.1) r2
  have r4:=congrArg (fun x=>x.1.2) r2
  have r5:=congrArg (fun x=>x.2) r2
  have t1:=rK r1
  have ea:(st0 (m9 w.params) os).abs=⟨boot_heap w.params,Array.mk [],boot_drawn,boot_toks,os⟩:=by
   show (⟨absHeap (m9 w.params) 11 {},_,_,_,_⟩:Shared)=_
   rw [boot_abs]; rfl
  rw [ea] at t1
  have t2:=topRun_mono (N - M) _ _ _ _ t1
  rw [show M+(N - M)=N by have:=Nat.le_of_ble_eq_true le; omega] at t2
  have z:=Ba w.params
  have z1:=congrArg (fun x=>x.1) z
  have z2:=congrArg (fun x=>x.2.1) z
  have z3:=congrArg (fun x=>x.2.2) z
  refine ⟨s.abs,?_,r4,r5⟩
  unfold openEnds
  rw [e1]
  show topFrom treeTable p w N _=_
  unfold topFrom
  dsimp only at z1 z2 z3 ⊢
  rw [z1,z2,z3,t2]
  show (match staticsOk (importedModules p.main.body) (boot_heap w.params) s.abs.heap && namesBound p s.abs.heap && gensDone s.abs && laidKept (boot_heap w.params) s.abs.heap with | true=>_ | false=>_)=_
  have r3':(staticsOk (importedModules p.main.body) (boot_heap w.params) s.abs.heap && namesBound p s.abs.heap && gensDone s.abs && laidKept (boot_heap w.params) s.abs.heap)=true:=r3
  rw [r3']
 refine ⟨fun w=>?_,fun w=>?_⟩
 · obtain ⟨s,a,b,c⟩:=key w
   rw [a]
   have:tw p N w=s.heap.get?:=by funext x; unfold tw; rw [a]; rfl
   show some (openSeen q loose (importedModules p.main.body) (Pj q lv R) true s,as.map s.heap.get?)=some (openGood q loose,as.map (tw p N w))
   rw [b,this]
 · obtain ⟨s,a,b,c⟩:=key w
   have:tw p N w=s.heap.get?:=by funext x; unfold tw; rw [a]; rfl
   rw [this]
   exact c
theorem kf_in {as:List Addr} {g:Addr→Option Obj} {h:Heap} (e:as.map h.get?=as.map g):(Kf as g).In h:=by
 have key:∀ {as:List Addr},as.map h.get?=as.map g→∀ a o,(Kf as g).lookup a=some o→h.get? a=some o:=by
  intro as
  induction as with
  | nil=>intro _ a o z; cases z
  | cons x as ih =>
    intro e a o z
    rw [g9,g9] at e
    injection e with e1 e2
    unfold Kf at z
    rw [nX] at z
    cases hg:g x with
    | none=>rw [hg] at z; exact ih e2 a o z
    | some o' =>
      rw [hg] at z
      simp only [OX,GZ] at z
      split at z
      · rename_i q
        have:a=x:=by simpa using q
        subst this
        cases z
        rw [e1,hg]
      · exact ih e2 a o z
 exact fun a o z=>key e a o z
theorem DY {q:Program} {loose:List Str} {XP:(Str→Option Value)→Heap→Prop} {as:List Addr} {g:World→Addr→Option Obj} {r:RowW} {d:DefRec} {kwd:List (Str×Expr)} {run:Value→List Value→Sem Value}
  (h:WalkO q loose XP (fun w h=>(Kf as (g w)).In h) r d kwd run):WalkX q loose XP (fun s=>as.map s.heap.get?) (fun w=>as.map (g w)) r d kwd run :=
 fun w s₀ s₁ mg mb G y a o pm cd doc dV kV h1 h2 h3 h4 h5 h6 args vals rJ L iC QM GF QK QN=>h w s₀ s₁ mg mb G (fun b o' z=>Laid.keeps L _ _ (kf_in y b o' z)) a o pm cd doc dV kV h1 h2 h3 h4 h5 h6 args vals rJ iC QM GF QK QN
noncomputable def Rp:Stmt→DefRec
 | .FunctionDef n ps b _ _ _ sc _ _ p=>⟨n,ps,b,sc,p⟩
 | _=>⟨Str.empty,default,[],default,default⟩
end HD
lay_quick HD.whole
namespace Gen
open PySem L2 VT
open Dr (bF)
theorem small {n:Nat} (h:n≤1000):n≤sizeLine:=Nat.le_of_lt (AV h)
noncomputable def qD (n:Int):Nat:=bF.cps.toList.getD (n % 26).toNat 0
theorem vF:bF.cps.toList.length=26:=by decide +kernel
theorem tD:bF.length=26:=by decide +kernel
theorem jZ:bF.length≤sizeLine:=by rw [tD,sizeLine_eq]; decide
theorem rL (n:Int):jH bF.cps.toList (n % 26)=some (qD n):=by
 have h0:0≤n % 26:=kC n (by decide)
 have h1:n % 26 < 26:=lT n (by decide)
 unfold qD
 obtain ⟨j,hj⟩:=nH h0
 rw [hj]
 have gz:j < bF.cps.toList.length:=by rw [vF]; omega
 refine aq ?_
 rw [lU,List.getD,fD gz]
 rfl
inductive j1 where
 | nm (x:Str)
 | nu (i:Int)
inductive Ky where
 | fld (x:Str)
 | op (o:j1)
inductive Rw where
 | df (f:Str) (ps:List Str)
 | give (a:j1)
 | put (x:Str) (a:j1)
 | CC (x:Str) (a:j1) (op:Str) (b:j1)
 | new (x:Str)
 | get (x r:Str) (k:Ky)
 | set (r:Str) (k:Ky) (a:j1)
 | call (x f:Str) (as:List j1)
 | fail (w:Str)
 | Bb (a:j1)
 | qF
 | tE (a:j1)
 | fin
 | skip
noncomputable def m_:j1→T
 | .nm x=>.str x
 | .nu i=>.int i
noncomputable def DZ:Ky→T
 | .fld x=>.str ((("." : String):Str) ++ x)
 | .op o=>m_ o
noncomputable def ax:Rw→T
 | .df f ps=>.tup [.str "def",.str f,.tup (ps.map .str)]
 | .give a=>.tup [.str "give",m_ a]
 | .put x a=>.tup [.str "put",.str x,m_ a]
 | .CC x a op b=>.tup [.str "do",.str x,m_ a,.str op,m_ b]
 | .new x=>.tup [.str "new",.str x]
 | .get x r k=>.tup [.str "get",.str x,.str r,DZ k]
 | .set r k a=>.tup [.str "set",.str r,DZ k,m_ a]
 | .call x f as=>.tup [.str "call",.str x,.str f,.tup (as.map m_)]
 | .fail w=>.tup [.str "fail",.str w]
 | .Bb a=>.tup [.str "if",m_ a]
 | .qF=>.tup [.str "else"]
 | .tE a=>.tup [.str "while",m_ a]
 | .fin=>.tup [.str "end"]
 | .skip=>.tup [.str "skip"]
noncomputable def c5 (ys:List Str):j1→Prop
 | .nm x=>x∈ys
 | .nu i=>-1000000000000000000000000000000≤i∧i < 1000000000000000000000000000000
noncomputable def Bc (ys:List Str):Ky→Prop
 | .fld x=>x∈ys
 | .op o=>c5 ys o
noncomputable abbrev Plan:=List (Str×List Str)
noncomputable def reckon:List Str:=["plus","minus","times","over","rest","less","same"]
noncomputable def h7 (ys:List Str) (later:Plan):Rw→Prop
 | .put x a=>x∈ys∧c5 ys a
 | .CC x a op b=>x∈ys∧c5 ys a∧op∈reckon∧c5 ys b
 | .new x=>x∈ys
 | .get x r k=>x∈ys∧r∈ys∧Bc ys k
 | .set r k a=>r∈ys∧Bc ys k∧c5 ys a
 | .call x f as=>x∈ys∧(∃ ps,(f,ps)∈later∧as.length=ps.length)∧∀ a∈as,c5 ys a
 | .fail w=>w∈ys
 | .skip=>True
 | _=>False
theorem Rq:(10:Int) ^ (30:Int).toNat=1000000000000000000000000000000:=by decide +kernel
theorem X3:((("." : String):Str)).length=1:=by decide +kernel
theorem Rr (i:Int):∃ op∈reckon,jH [T.str "plus",T.str "minus",T.str "times",T.str "over",T.str "rest",T.str "less",T.str "same"] (i % 7)=some (T.str op):=by
 have h0:0≤i % 7:=kC i (by decide)
 have h1:i % 7 < 7:=lT i (by decide)
 obtain ⟨j,hj⟩:=nH h0
 rw [hj] at h1 ⊢
 have:j=0∨j=1∨j=2∨j=3∨j=4∨j=5∨j=6:=by omega
 rcases this with rfl | rfl | rfl | rfl | rfl | rfl | rfl
 · exact ⟨"plus",by simp [reckon],aq rfl⟩
 · exact ⟨"minus",by simp [reckon],aq rfl⟩
 · exact ⟨"times",by simp [reckon],aq rfl⟩
 · exact ⟨"over",by simp [reckon],aq rfl⟩
 · exact ⟨"rest",by simp [reckon],aq rfl⟩
 · exact ⟨"less",by simp [reckon],aq rfl⟩
 · exact ⟨"same",by simp [reckon],aq rfl⟩
noncomputable def kj (ys:List Str) (pl:Plan) (bE:List Str) (new:List Rw) (cK:List Str):Prop :=
 (∃ o,c5 ys o∧new=[.Bb o]∧cK=bE ++ ([("if" : Str)]:List Str))∨(∃ o,c5 ys o∧new=[.tE o]∧cK=bE ++ ([("while" : Str)]:List Str)) ∨
 (∃ y,y∈ys∧new=[.tE (.nm y),.CC y (.nm y) "minus" (.nu 1)]∧cK=bE ++ ([("while" : Str)]:List Str))∨(∃ s0,bE=s0 ++ ([("if" : Str)]:List Str)∧new=[.qF]∧cK=s0 ++ ([("else" : Str)]:List Str)) ∨
 (∃ s0 x,bE=s0 ++ [x]∧new=[.fin]∧cK=s0)∨(∃ r,h7 ys pl r∧new=[r]∧cK=bE)
noncomputable def tF (ys:List Str) (pl:Plan):Prop:=∀ (k:Nat) f ps,pl[k]?=some (f,ps)→ys[k]?=some f∧∃ (a:Int) (r:Nat),r≤2∧ps=(List.range r).map fun j=>ys.getD ((a+((j:Nat):Int)) % 4).toNat Str.empty
inductive Body (ys:List Str) (later:Plan):List Str→List Rw→Prop
 | nil:Body ys later [] []
 | step {bE cK:List Str} {body new:List Rw}:Body ys later bE body→kj ys later bE new cK→Body ys later cK (body ++ new)
inductive Pre (ys:List Str) (pl:Plan):Nat→List Rw→Prop
 | zero:Pre ys pl 0 []
 | succ {k:Nat} {rs:List Rw} {f:Str} {ps:List Str} {bE:List Str} {body:List Rw} {o:j1} {sk:List Rw}:Pre ys pl k rs→pl[k]?=some (f,ps)→Body ys (pl.drop (k+1)) bE body→c5 ys o→(sk=[]∨sk=[.skip]) →
    Pre ys pl (k+1) (rs ++ (.df f ps :: (body ++ (List.replicate bE.length .fin ++ (.give o :: sk)))))
theorem d_ {α:Type} {f:α→T} (h:∀ x,plainT (f x)=true):∀ l:List α,bZ (l.map f)=true
 | []=>by simp [bZ]
 | x :: l=>by simp only [g9,bZ,h x,d_ h l,Bool.and_self]
theorem h_ {α:Type} {f:α→T} {n:Nat} (h:∀ x,dep (f x)≤n):∀ l:List α,oI (l.map f)≤n
 | []=>by simp [oI]
 | x :: l=>by have:=h x; have:=h_ h l; simp only [g9,oI]; omega
theorem mn (o:j1):plainT (m_ o)=true:=by cases o <;> simp [m_,plainT]
theorem Bd (o:Ky):plainT (DZ o)=true:=by cases o with | fld x=>simp [DZ,plainT] | op o=>exact mn o
theorem gd (r:Rw):plainT (ax r)=true:=by
 cases r <;> simp [ax,plainT,bZ,mn,Bd,d_ (f:=T.str) (fun _=>by simp [plainT]),d_ (f:=m_) mn]
theorem tG (o:j1):dep (m_ o)=0:=by cases o <;> simp [m_,dep]
theorem IA (o:Ky):dep (DZ o)=0:=by cases o with | fld x=>simp [DZ,dep] | op o=>exact tG o
theorem o6 (r:Rw):dep (ax r)≤2:=by
 have h1:=fun l:List Str=>h_ (f:=T.str) (n:=0) (fun _=>by simp [dep]) l
 have h2:=fun l:List j1=>h_ (f:=m_) (n:=0) (fun o=>by simp [tG]) l
 cases r <;> simp [ax,dep,oI,tG,IA] <;> first | (rename_i x; have:=h1 x; omega) | (rename_i x; have:=h2 x; omega) | skip
theorem tI (o:j1):ma (m_ o)=true:=by cases o <;> simp [m_,ma]
theorem IB (o:Ky):ma (DZ o)=true:=by cases o with | fld x=>simp [DZ,ma] | op o=>exact tI o
theorem kW {α:Type} {f:α→T} (h:∀ x,ma (f x)=true):∀ l:List α,qu (l.map f)=true
 | []=>by simp [qu]
 | x :: l=>by simp only [g9,qu,h x,kW h l,Bool.and_self]
theorem vG (r:Rw):ma (ax r)=true:=by
 cases r <;> simp [ax,ma,qu,tI,IB,kW (f:=T.str) (fun _=>by simp [ma]),kW (f:=m_) tI]
end Gen
namespace Gen
open PySem L2 VT
open Dr (bF GI dy)
theorem zR (n:Int):GI (qD n)=true:=by
 have h0:0≤n % 26:=kC n (by decide)
 have h1:n % 26 < 26:=lT n (by decide)
 have h:∀ j < 26,GI (bF.cps.toList.getD j 0)=true:=by decide +kernel
 exact h _ (by omega)
theorem D_ {a b:Int} (h:qD a=qD b):a % 26=b % 26:=by
 have a0:0≤a % 26:=kC a (by decide)
 have a1:a % 26 < 26:=lT a (by decide)
 have b0:0≤b % 26:=kC b (by decide)
 have b1:b % 26 < 26:=lT b (by decide)
 have k:∀ i < 26,∀ j < 26,bF.cps.toList.getD i 0=bF.cps.toList.getD j 0→i=j:=by decide +kernel
 have:=k (a % 26).toNat (by omega) (b % 26).toNat (by omega) h
 omega
noncomputable def Ea (ys:List Str):Rw→Prop
 | .df f ps=>f∈ys∧ps.length≤2∧ps.Nodup∧∀ p∈ps,p∈ys
 | .give a=>c5 ys a
 | .put x a=>x∈ys∧c5 ys a
 | .CC x a op b=>x∈ys∧c5 ys a∧op∈reckon∧c5 ys b
 | .new x=>x∈ys
 | .get x r k=>x∈ys∧r∈ys∧Bc ys k
 | .set r k a=>r∈ys∧Bc ys k∧c5 ys a
 | .call x f as=>x∈ys∧f∈ys∧as.length≤2∧∀ a∈as,c5 ys a
 | .fail w=>w∈ys
 | .Bb a=>c5 ys a
 | .tE a=>c5 ys a
 | _=>True
theorem Eb {l:List Str} (nd:l.Nodup) {i j:Nat} (hi:i < l.length) (hj:j < l.length) (e:l[i]=l[j]):i=j:=by
 rw [List.Nodup,List.pairwise_iff_getElem] at nd
 rcases OT i j with h | h | h
 · exact absurd e (nd i j hi hj h)
 · exact h
 · exact absurd e.symm (nd j i hj hi h)
theorem Be {ys:List Str} {pl:Plan} (hp:∀ f ps,(f,ps)∈pl→f∈ys∧ps.length≤2) {r:Rw} (h:h7 ys pl r):Ea ys r:=by
 cases r <;> first
  | exact h
  | exact h.elim
  | (obtain ⟨h1,⟨ps,h2,h3⟩,h4⟩:=h
     exact ⟨h1,(hp _ _ h2).1,by rw [h3]; exact (hp _ _ h2).2,h4⟩)
theorem Nc {ys:List Str} {pl:Plan} (hp:∀ f ps,(f,ps)∈pl→f∈ys∧ps.length≤2) {bE new cK} (h:kj ys pl bE new cK):∀ r∈new,Ea ys r:=by
 rcases h with ⟨o,ho,rfl,_⟩ | ⟨o,ho,rfl,_⟩ | ⟨y,hy,rfl,_⟩ | ⟨s0,_,rfl,_⟩ | ⟨s0,x,_,rfl,_⟩ | ⟨r,hr,rfl,_⟩ <;> intro r' cO
 · simp only [cZ,fG,or_false] at cO; subst cO; exact ho
 · simp only [cZ,fG,or_false] at cO; subst cO; exact ho
 · simp only [cZ,fG,or_false] at cO
   rcases cO with rfl | rfl
   · exact hy
   · exact ⟨hy,hy,by simp [reckon],by decide,by decide⟩
 · simp only [cZ,fG,or_false] at cO; subst cO; trivial
 · simp only [cZ,fG,or_false] at cO; subst cO; trivial
 · simp only [cZ,fG,or_false] at cO; subst cO; exact Be hp hr
theorem IC {ys:List Str} {pl:Plan} (hp:∀ f ps,(f,ps)∈pl→f∈ys∧ps.length≤2) {bE body} (h:Body ys pl bE body):∀ r∈body,Ea ys r:=by
 induction h with
 | nil=>intro r hr; cases hr
 | step _ h2 ih =>
   intro r hr
   rcases g_.mp hr with hr | hr
   · exact ih r hr
   · exact Nc hp h2 r hr
noncomputable def wd:Rw→Str
 | .df _ _=>"def"
 | .give _=>"give"
 | .put _ _=>"put"
 | .CC _ _ _ _=>"do"
 | .new _=>"new"
 | .get _ _ _=>"get"
 | .set _ _ _=>"set"
 | .call _ _ _=>"call"
 | .fail _=>"fail"
 | .Bb _=>"if"
 | .qF=>"else"
 | .tE _=>"while"
 | .fin=>"end"
 | .skip=>"skip"
noncomputable def cc (st:List Str) (x:Str):Bool:=match st.getLast? with
 | none=>vB (.str x) [.str "def",.str "skip"]
 | some l=>if x="give" then decide (l="def") else if x="else" then decide (l="if") else if x="end" then !decide (l="def") else !decide (x="def")
noncomputable def fE (st:List Str) (x:Str):List Str :=
 if x="def"∨x="if"∨x="while" then st ++ [x] else if x="give"∨x="end" then st.dropLast else if x="else" then st.dropLast ++ [("else" : Str)] else st
theorem oa (x:Str):∀ l:List Str,vB (.str x) (l.map .str)=decide (x∈l)
 | []=>by simp [vB]
 | y :: l=>by
   rw [g9]
   show (eqT (.str y) (.str x) || vB (.str x) (l.map .str))=_
   rw [oa x l]
   show (decide (y=x) || decide (x∈l))=_
   rw [G1]
   simp only [Bool.or_eq_true,decide_eq_true_eq,cZ]
   constructor
   · rintro (h | h)
     · exact .inl h.symm
     · exact .inr h
   · rintro (h | h)
     · exact .inl h.symm
     · exact .inr h
theorem jK (r:Rw):∃ l,ax r = .tup (.str (wd r) :: l):=by cases r <;> exact ⟨_,rfl⟩
theorem eB {α:Type} {f:α→T} {xs:List α} {h:FG} {g:FS} {d:GJ} {ρ:En} (Pv:Nat→En→Prop) (h0:Pv 0 ρ) (hs:∀ (i:Nat) x ρ',xs[i]?=some x→Pv i ρ'→h (.tup [.int (i:Int),f x]) ρ' fun ρ2=>g { nx:=Pv (i+1),ct:=Pv (i+1),bk:=d.nx,rt:=d.rt } ρ2)
 (hd:∀ ρ',Pv xs.length ρ'→d.nx ρ'):oM (jr (xs.map f)) h g d ρ:=⟨Pv,h0,fun i t ρ' e p=>by
   unfold jr at e
   rw [PQ,gw] at e
   cases q:xs[i]? with
   | none=>rw [q] at e; cases e
   | some x=>rw [q] at e; cases e; exact hs i x ρ' q p,fun ρ' p=>hd ρ' (by unfold jr at p; rw [List.length_mapIdx,b_] at p; exact p)⟩
noncomputable def ID (o:Option (List Str)) (r:Rw):Option (List Str):=o.bind fun st=>if cc st (wd r)=true then some (fE st (wd r)) else none
noncomputable def dB (o:Option (List Str)) (rs:List Rw):Option (List Str):=rs.foldl ID o
theorem gK (o:Option (List Str)) (a b:List Rw):dB o (a ++ b)=dB (dB o a) b:=List.foldl_append
theorem vH (rs:List Rw):dB none rs=none:=by
 induction rs with
 | nil=>rfl
 | cons r rs ih=>exact ih
theorem Bf {st:List Str} {r:Rw} (h:cc st (wd r)=true):ID (some st) r=some (fE st (wd r)):=by
 show (if cc st (wd r)=true then _ else _)=_
 rw [if_pos h]
theorem cy {st:List Str} {r:Rw} (h:cc st (wd r)=true):dB (some st) [r]=some (fE st (wd r)):=Bf h
theorem gf {rs:List Rw} {st:List Str} (h:dB (some []) rs=some st) (i:Nat) {r:Rw} (hr:rs[i]?=some r) :
  ∃ s,dB (some []) (rs.take i)=some s∧cc s (wd r)=true∧dB (some []) (rs.take (i+1))=some (fE s (wd r)):=by
 have hi:=(cn.mp hr).1
 have e:rs=rs.take i ++ (r :: rs.drop (i+1)):=by
  have hg:=(cn.mp hr).2
  rw [← hg,List.getElem_cons_drop,List.take_append_drop]
 have e2:rs.take (i+1)=rs.take i ++ [r]:=by
  have hg:=(cn.mp hr).2
  rw [← hg,List.take_append_getElem]
 rw [e,gK] at h
 cases hs:dB (some []) (rs.take i) with
 | none =>
   rw [hs,vH] at h
   cases h
 | some s =>
   rw [hs] at h
   have h':dB (ID (some s) r) (rs.drop (i+1))=some st:=h
   cases hm:cc s (wd r) with
   | false =>
     have:ID (some s) r=none:=by show (if cc s (wd r)=true then _ else _)=_; rw [hm]; rfl
     rw [this,vH] at h'
     cases h'
   | true=>exact ⟨s,rfl,hm,by rw [e2,gK,hs]; exact cy hm⟩
noncomputable abbrev kX:Str:="def"
noncomputable def Hd (x:Str):Prop:=x="if"∨x="while"∨x="else"
theorem Hd.ne {x:Str} (h:Hd x):x≠"def":=by rcases h with rfl | rfl | rfl <;> decide +kernel
theorem rM {ys:List Str} {pl:Plan} {r:Rw} (h:h7 ys pl r):∀ st,st≠[]→cc st (wd r)=true∧fE st (wd r)=st:=by
 intro st xN
 obtain ⟨l,hl⟩:∃ l,st.getLast?=some l:=by
  cases e:st.getLast? with
  | none=>rw [PM] at e; exact absurd e xN
  | some l=>exact ⟨l,rfl⟩
 have k:∀ x:Str,(x="put"∨x="do"∨x="new"∨x="get"∨x="set"∨x="call"∨x="fail"∨x="skip")→cc st x=true∧fE st x=st:=by
  intro x hx
  unfold cc fE
  rw [hl]
  rcases hx with rfl | rfl | rfl | rfl | rfl | rfl | rfl | rfl <;> exact ⟨(by show (if _ then _ else _)=true; rw [if_neg (by decide +kernel),if_neg (by decide +kernel),if_neg (by decide +kernel)]; decide +kernel),(by rw [if_neg (by decide +kernel),if_neg (by decide +kernel),if_neg (by decide +kernel)])⟩
 cases r <;> first
  | exact h.elim
  | exact k _ (by simp [wd])
theorem tJ (st:List Str):fE st "if" = st ++ [("if" : Str)]:=by unfold fE; rw [if_pos (.inr (.inl rfl))]
theorem ia (st:List Str):fE st "while" = st ++ [("while" : Str)]:=by unfold fE; rw [if_pos (.inr (.inr rfl))]
theorem og (st:List Str):fE st "def" = st ++ [kX]:=by unfold fE; rw [if_pos (.inl rfl)]
theorem kY (st:List Str):fE st "end" = st.dropLast:=by unfold fE; rw [if_neg (by decide +kernel),if_pos (by decide +kernel)]
theorem kZ (st:List Str):fE st "give" = st.dropLast:=by unfold fE; rw [if_neg (by decide +kernel),if_pos (by decide +kernel)]
theorem ic (st:List Str):fE st "else" = st.dropLast ++ [("else" : Str)]:=by unfold fE; rw [if_neg (by decide +kernel),if_neg (by decide +kernel),if_pos rfl]
theorem tK (st:List Str) (l x:Str) (hx:x="if"∨x="while"):cc (st ++ [l]) x=true:=by
 unfold cc
 rw [Gx]
 rcases hx with rfl | rfl <;> (show (if _ then _ else _)=true; rw [if_neg (by decide +kernel),if_neg (by decide +kernel),if_neg (by decide +kernel)]; decide +kernel)
theorem Bg (st:List Str):cc (st ++ [("if" : Str)]) "else" = true:=by
 unfold cc
 rw [Gx]
 show (if _ then _ else _)=true
 rw [if_neg (by decide +kernel),if_pos rfl]
 decide +kernel
theorem vI (st:List Str) {l:Str} (h:l≠"def"):cc (st ++ [l]) "end" = true:=by
 unfold cc
 rw [Gx]
 show (if _ then _ else _)=true
 rw [if_neg (by decide +kernel),if_neg (by decide +kernel),if_pos rfl,decide_eq_false h]
 rfl
theorem Bh (st:List Str):cc (st ++ [kX]) "give" = true:=by
 unfold cc
 rw [Gx]
 show (if _ then _ else _)=true
 rw [if_pos rfl]
 decide +kernel
theorem zS {st:List Str} (h:st≠[]):∃ s l,st=s ++ [l]:=⟨st.dropLast,st.getLast h,(List.dropLast_concat_getLast h).symm⟩
theorem IE {ys:List Str} {pl:Plan} {bE new cK} (h:kj ys pl bE new cK) (hs:∀ x∈bE,Hd x) :
  dB (some (kX :: bE)) new=some (kX :: cK)∧∀ x∈cK,Hd x:=by
 have hd:∀ st:List Str,∃ s l,kX :: st=s ++ [l]:=fun st=>zS (by simp)
 rcases h with ⟨o,_,rfl,rfl⟩ | ⟨o,_,rfl,rfl⟩ | ⟨y,_,rfl,rfl⟩ | ⟨s0,rfl,rfl,rfl⟩ | ⟨s0,x,es,rfl,e'⟩ | ⟨r,hr,rfl,e'⟩
 · obtain ⟨s,l,e⟩:=hd bE
   refine ⟨?_,?_⟩
   · rw [cy (st:=kX :: bE) (r:=.Bb o) (by rw [e]; exact tK s l _ (.inl rfl))]
     show some (fE _ "if")=_
     rw [tJ]; rfl
   · intro x hx
     rcases g_.mp hx with hx | hx
     · exact hs x hx
     · simp only [cZ,fG,or_false] at hx; exact .inl hx
 · obtain ⟨s,l,e⟩:=hd bE
   refine ⟨?_,?_⟩
   · rw [cy (st:=kX :: bE) (r:=.tE o) (by rw [e]; exact tK s l _ (.inr rfl))]
     show some (fE _ "while")=_
     rw [ia]; rfl
   · intro x hx
     rcases g_.mp hx with hx | hx
     · exact hs x hx
     · simp only [cZ,fG,or_false] at hx; exact .inr (.inl hx)
 · obtain ⟨s,l,e⟩:=hd bE
   refine ⟨?_,?_⟩
   · have h1:dB (some (kX :: bE)) [Rw.tE (.nm y)]=some ((kX :: bE) ++ [("while" : Str)]):=by
      rw [cy (st:=kX :: bE) (r:=.tE (.nm y)) (by rw [e]; exact tK s l _ (.inr rfl))]
      show some (fE _ "while")=_
      rw [ia]
     have h2:=rM (ys:=[y]) (pl:=[]) (r:=.CC y (.nm y) "minus" (.nu 1)) ⟨by simp,by simp [c5],by simp [reckon],by decide,by decide⟩ ((kX :: bE) ++ [("while" : Str)]) (by simp)
     show dB (dB (some (kX :: bE)) [Rw.tE (.nm y)]) [Rw.CC y (.nm y) "minus" (.nu 1)]=_
     rw [h1,cy h2.1,h2.2]; rfl
   · intro x hx
     rcases g_.mp hx with hx | hx
     · exact hs x hx
     · simp only [cZ,fG,or_false] at hx; exact .inr (.inl hx)
 · refine ⟨?_,?_⟩
   · have e:kX :: (s0 ++ [("if" : Str)])=(kX :: s0) ++ [("if" : Str)]:=rfl
     rw [e,cy (Bg _)]
     show some (fE _ "else")=_
     rw [ic,uL]; rfl
   · intro x hx
     rcases g_.mp hx with hx | hx
     · exact hs x (jR _ hx)
     · simp only [cZ,fG,or_false] at hx; exact .inr (.inr hx)
 · subst es
   subst e'
   refine ⟨?_,fun y hy=>hs y (jR _ hy)⟩
   have e:kX :: (cK ++ [x])=(kX :: cK) ++ [x]:=rfl
   rw [e,cy (vI _ (hs x (by simp)).ne)]
   show some (fE _ "end")=_
   rw [kY,uL]
 · subst e'
   have:=rM hr (kX :: cK) (by simp)
   refine ⟨?_,hs⟩
   rw [cy this.1,this.2]
theorem Ec {ys:List Str} {pl:Plan} {bE body} (h:Body ys pl bE body):dB (some [kX]) body=some (kX :: bE)∧∀ x∈bE,Hd x:=by
 induction h with
 | nil=>exact ⟨rfl,fun x hx=>nomatch hx⟩
 | step _ h2 ih =>
   have:=IE h2 ih.2
   exact ⟨by rw [gK,ih.1]; exact this.1,this.2⟩
theorem vJ:∀ (n:Nat) (bE:List Str),bE.length=n→(∀ x∈bE,Hd x)→dB (some (kX :: bE)) (List.replicate n .fin)=some [kX]
 | 0,bE,hl,_=>by
   rw [Cn] at hl
   subst hl
   rfl
 | n+1,bE,hl,hs=>by
   obtain ⟨s,l,rfl⟩:=zS (st:=bE) (by intro z; subst z; cases hl)
   rw [ot]
   show dB (dB (some ((kX :: s) ++ [l])) [Rw.fin]) (List.replicate n .fin)=_
   rw [cy (vI _ (hs l (by simp)).ne)]
   show dB (some (fE _ "end")) _=_
   rw [kY,uL]
   exact vJ n s (by simpa using hl) fun x hx=>hs x (jR _ hx)
theorem IF {ys:List Str} {pl:Plan} {n:Nat} {rs:List Rw} (h:Pre ys pl n rs):dB (some []) rs=some []:=by
 induction h with
 | zero=>rfl
 | @succ k rs f ps bE body o sk _ hk hb ho hs ih =>
   rw [gK,ih]
   show dB (dB (some []) [Rw.df f ps]) _=_
   rw [cy (by show cc [] "def" = true; decide +kernel)]
   show dB (some (fE [] "def")) _=_
   rw [og,gK]
   have hB:=Ec hb
   show dB (dB (some [kX]) body) _=_
   rw [hB.1,gK,vJ _ bE rfl hB.2]
   show dB (dB (some ([] ++ [kX])) [Rw.give o]) sk=_
   rw [cy (Bh [])]
   show dB (some (fE _ "give")) sk=_
   rw [kZ,uL]
   rcases hs with rfl | rfl
   · rfl
   · rw [cy (by show cc [] "skip" = true; decide +kernel)]
     show some (fE [] "skip")=_
     rfl
theorem rN (n:Nat):dB (some []) (List.replicate n .skip)=some []:=by
 induction n with
 | zero=>rfl
 | succ n ih =>
   rw [ot]
   show dB (dB (some []) [Rw.skip]) (List.replicate n .skip)=_
   rw [cy (by show cc [] "skip" = true; decide +kernel)]
   exact ih
noncomputable def ng:List (Str×Nat)→Str→Option Nat
 | [],_=>none
 | (k,i) :: l,f=>if k=f then some i else ng l f
theorem tO (l m:List (Str×Nat)) (f:Str):ng (l ++ m) f=match ng l f with
  | some i=>some i
  | none=>ng m f:=by
 induction l with
 | nil=>rfl
 | cons p l ih =>
   obtain ⟨k,i⟩:=p
   simp only [Vb,ng]
   by_cases h:k=f
   · rw [if_pos h,if_pos h]
   · rw [if_neg h,if_neg h]; exact ih
noncomputable def Bi (l:List (Str×Nat)) (i:Nat):Rw→List (Str×Nat)
 | .df f _=>match ng l f with
   | some _=>l
   | none=>l ++ [(f,i)]
 | _=>l
noncomputable def aH (rs:List Rw):Nat→List (Str×Nat)
 | 0=>[]
 | n+1=>match rs[n]? with
   | some r=>Bi (aH rs n) n r
   | none=>aH rs n
theorem vK {rs:List Rw} {f:Str} {j:Nat}:∀ n,ng (aH rs n) f=some j→j < n∧∃ ps,rs[j]?=some (.df f ps)
 | 0,h=>nomatch h
 | n+1,h=>by
   have old:ng (aH rs n) f=some j→j < n+1∧∃ ps,rs[j]?=some (.df f ps):=fun h=>by
    have:=vK n h
    exact ⟨by omega,this.2⟩
   simp only [aH] at h
   split at h
   · rename_i r hr
     cases r with
     | df g ps =>
       simp only [Bi] at h
       split at h
       · exact old h
       · rename_i hn
         rw [tO] at h
         split at h
         · rename_i i hi
           cases h
           exact old hi
         · simp only [ng] at h
           split at h
           · rename_i e
             cases h
             subst e
             exact ⟨by omega,ps,hr⟩
           · cases h
     | _=>exact old h
   · exact old h
theorem rO {rs:List Rw} {f:Str} {i:Nat} {ps:List Str} (hi:rs[i]?=some (.df f ps)):∀ n,i < n→∃ j,ng (aH rs n) f=some j
 | 0,h=>absurd h (by omega)
 | n+1,h=>by
   simp only [aH]
   by_cases e:i=n
   · subst e
     rw [hi]
     simp only [Bi]
     cases ha:ng (aH rs i) f with
     | some j=>exact ⟨j,ha⟩
     | none =>
       refine ⟨i,?_⟩
       simp only
       rw [tO,ha]
       simp only [ng,if_true]
   · obtain ⟨j,hj⟩:=rO hi n (by omega)
     split
     · rename_i r hr
       cases r with
       | df g qs =>
         simp only [Bi]
         split
         · exact ⟨j,hj⟩
         · rw [tO,hj]; exact ⟨j,rfl⟩
       | _=>exact ⟨j,hj⟩
     · exact ⟨j,hj⟩
structure dw (rs:List Rw):Prop where
 un:∀ (i i':Nat) (f:Str) (ps zT:List Str),rs[i]?=some (Rw.df f ps)→rs[i']?=some (Rw.df f zT)→i=i'
 ca:∀ (i:Nat) (x f:Str) (as:List j1),rs[i]?=some (Rw.call x f as)→∃ (j:Nat) (ps:List Str),i < j∧rs[j]?=some (Rw.df f ps)∧ps.length=as.length
theorem dw.first {rs:List Rw} (h:dw rs) {i:Nat} {f:Str} {ps:List Str} (hi:rs[i]?=some (.df f ps)):ng (aH rs rs.length) f=some i:=by
 obtain ⟨j,hj⟩:=rO hi rs.length (cn.mp hi).1
 obtain ⟨_,qs,hq⟩:=vK _ hj
 rw [hj,h.un j i f qs ps hq hi]
noncomputable def yr (pl:Plan):Rw→Prop
 | .df _ _=>False
 | .call _ f as=>∃ ps,(f,ps)∈pl∧as.length=ps.length
 | _=>True
theorem Bj {ys:List Str} {pl:Plan} {r:Rw} (h:h7 ys pl r):yr pl r:=by
 cases r <;> first
  | exact trivial
  | exact h.elim
  | exact h.2.1
theorem IG {ys:List Str} {pl:Plan} {bE body} (h:Body ys pl bE body):∀ r∈body,yr pl r:=by
 induction h with
 | nil=>intro r hr; cases hr
 | step _ h2 ih =>
   intro r hr
   rcases g_.mp hr with hr | hr
   · exact ih r hr
   · rcases h2 with ⟨o,ho,rfl,_⟩ | ⟨o,ho,rfl,_⟩ | ⟨y,hy,rfl,_⟩ | ⟨s0,_,rfl,_⟩ | ⟨s0,x,_,rfl,_⟩ | ⟨r',cO,rfl,_⟩
     · simp only [cZ,fG,or_false] at hr; subst hr; trivial
     · simp only [cZ,fG,or_false] at hr; subst hr; trivial
     · simp only [cZ,fG,or_false] at hr; rcases hr with rfl | rfl <;> trivial
     · simp only [cZ,fG,or_false] at hr; subst hr; trivial
     · simp only [cZ,fG,or_false] at hr; subst hr; trivial
     · simp only [cZ,fG,or_false] at hr; subst hr; exact Bj cO
structure X4 (pl:Plan) (k:Nat) (rs:List Rw):Prop where
 a:∀ (i:Nat) (f:Str) (ps:List Str),rs[i]?=some (Rw.df f ps)→∃ m,m < k∧pl[m]?=some (f,ps)
 c:∀ (i:Nat) (x f:Str) (as:List j1),rs[i]?=some (Rw.call x f as)→∃ (m:Nat) (ps:List Str),pl[m]?=some (f,ps)∧as.length=ps.length∧(m < k→∃ j,i < j∧rs[j]?=some (Rw.df f ps))
 u:∀ (i i':Nat) (f:Str) (ps zT:List Str),rs[i]?=some (Rw.df f ps)→rs[i']?=some (Rw.df f zT)→i=i'
theorem Ru {ys:List Str} {pl:Plan} (nd:ys.Nodup) (hP:tF ys pl) {n:Nat} {rs:List Rw} (h:Pre ys pl n rs):X4 pl n rs:=by
 induction h with
 | zero=>exact ⟨fun i f ps h=>by simp at h,fun i x f as h=>by simp at h,fun i i' f ps zT h=>by simp at h⟩
 | @succ k rs f ps bE body o sk _ hk hb ho hs ih =>
   have Nd:=IG hb
   generalize Rv:body ++ (List.replicate bE.length Rw.fin ++ (Rw.give o :: sk))=rest
   have hR:∀ r∈rest,yr (pl.drop (k+1)) r:=by
    intro r hr
    rw [← Rv] at hr
    rcases g_.mp hr with hr | hr
    · exact Nd r hr
    · rcases g_.mp hr with hr | hr
      · rw [(U8.mp hr).2]; trivial
      · rcases cZ.mp hr with rfl | hr
        · trivial
        · rcases hs with rfl | rfl
          · cases hr
          · simp only [cZ,fG,or_false] at hr; subst hr; trivial
   have split:∀ i r,(rs ++ Rw.df f ps :: rest)[i]?=some r→rs[i]?=some r∨(i=rs.length∧r = .df f ps)∨(rs.length < i∧r∈rest):=by
    intro i r hi
    rcases OT i rs.length with h | h | h
    · rw [oq h] at hi; exact .inl hi
    · subst h
      rw [sA (cA _),Nat.sub_self] at hi
      exact .inr (.inl ⟨rfl,(Option.some.inj hi).symm⟩)
    · rw [sA (by omega)] at hi
      obtain ⟨d,hd⟩:∃ d,i - rs.length=d+1:=⟨i - rs.length - 1,by omega⟩
      rw [hd,List.getElem?_cons_succ] at hi
      exact .inr (.inr ⟨h,j7 hi⟩)
   have here:(rs ++ Rw.df f ps :: rest)[rs.length]?=some (.df f ps):=by
    rw [sA (cA _),Nat.sub_self]; rfl
   have left:∀ j r,rs[j]?=some r→(rs ++ Rw.df f ps :: rest)[j]?=some r:=fun j r h=>by
    rw [oq (cn.mp h).1]; exact h
   have KG:∀ (i:Nat) (g:Str) (qs:List Str),rs[i]?=some (Rw.df g qs)→g≠f:=by
    intro i g qs hi e
    obtain ⟨m,hm,hp⟩:=ih.a i g qs hi
    have h1:=(hP m g qs hp).1
    have h2:=(hP k f ps hk).1
    rw [e] at h1
    obtain ⟨l1,e1⟩:=cn.mp h1
    obtain ⟨l2,e2⟩:=cn.mp h2
    have:=Eb nd l1 l2 (e1.trans e2.symm)
    omega
   refine ⟨fun i g qs hi=>?_,fun i x g as hi=>?_,fun i i' g qs qs' hi Dp=>?_⟩
   · rcases split i _ hi with h | ⟨_,e⟩ | ⟨_,h⟩
     · obtain ⟨m,hm,hp⟩:=ih.a i g qs h
       exact ⟨m,by omega,hp⟩
     · cases e; exact ⟨k,by omega,hk⟩
     · exact (hR _ h).elim
   · rcases split i _ hi with h | ⟨_,e⟩ | ⟨_,h⟩
     · obtain ⟨m,qs,hp,hl,hj⟩:=ih.c i x g as h
       refine ⟨m,qs,hp,hl,fun hm=>?_⟩
       by_cases e:m=k
       · subst e
         rw [hk] at hp
         cases hp
         exact ⟨rs.length,(cn.mp h).1,here⟩
       · obtain ⟨j,h1,h2⟩:=hj (by omega)
         exact ⟨j,h1,left j _ h2⟩
     · cases e
     · obtain ⟨qs,hq,hl⟩:=hR _ h
       obtain ⟨m,hm⟩:=List.getElem?_of_mem hq
       rw [List.getElem?_drop] at hm
       exact ⟨k+1+m,qs,hm,hl,fun z=>absurd z (by omega)⟩
   · rcases split i _ hi with h | ⟨h,e⟩ | ⟨_,h⟩
     · rcases split i' _ Dp with h' | ⟨h',e'⟩ | ⟨_,h'⟩
       · exact ih.u i i' g qs qs' h h'
       · cases e'; exact absurd rfl (KG i _ _ h)
       · exact (hR _ h').elim
     · rcases split i' _ Dp with h' | ⟨h',e'⟩ | ⟨_,h'⟩
       · cases e; exact absurd rfl (KG i' _ _ h')
       · omega
       · exact (hR _ h').elim
     · exact (hR _ h).elim
theorem Ed {ys:List Str} {pl:Plan} (nd:ys.Nodup) (hP:tF ys pl) {rs:List Rw} (h:Pre ys pl pl.length rs):dw rs:=by
 have P:=Ru nd hP h
 refine ⟨P.u,fun i x f as hi=>?_⟩
 obtain ⟨m,ps,hp,hl,hj⟩:=P.c i x f as hi
 obtain ⟨j,h1,h2⟩:=hj (cn.mp hp).1
 exact ⟨j,ps,h1,h2,hl.symm⟩
theorem o7 {rs:List Rw} (n:Nat) (h:dw rs):dw (List.replicate n .skip ++ rs):=by
 have sh:∀ i r,(List.replicate n Rw.skip ++ rs)[i]?=some r→r = .skip∨∃ d,i=n+d∧rs[d]?=some r:=by
  intro i r hi
  by_cases hl:i < n
  · rw [oq (by simpa using hl),Av,if_pos hl] at hi
    exact .inl (Option.some.inj hi).symm
  · rw [sA (by simpa using hl),xt] at hi
    exact .inr ⟨i - n,by omega,hi⟩
 have bk:∀ d r,rs[d]?=some r→(List.replicate n Rw.skip ++ rs)[n+d]?=some r:=fun d r hd=>by
  rw [sA (by simp),xt,Nat.add_sub_cancel_left]; exact hd
 refine ⟨fun i i' f ps zT h1 h2=>?_,fun i x f as h1=>?_⟩
 · rcases sh i _ h1 with e | ⟨d,rfl,hd⟩
   · cases e
   · rcases sh i' _ h2 with e | ⟨d',rfl,AD⟩
     · cases e
     · rw [h.un d d' f ps zT hd AD]
 · rcases sh i _ h1 with e | ⟨d,rfl,hd⟩
   · cases e
   · obtain ⟨j,ps,hj,hp,hl⟩:=h.ca d x f as hd
     exact ⟨n+j,ps,by omega,bk j _ hp,hl⟩
end Gen
namespace K5
structure Kd where
 op:Bool
 cl:Bool
 el:Bool
 df:Bool
deriving DecidableEq,Inhabited
section
variable (kd:Nat→Kd)
noncomputable def st:Nat→List Nat
 | 0=>[]
 | k+1=>let s:=if (kd k).cl=true then (st k).dropLast else st k
   if (kd k).op=true then s ++ [k] else s
noncomputable def dp (k:Nat):Nat:=(st kd k).length
structure WF (n:Nat):Prop where
 ex:∀ k,k < n→(kd k).op=true→(kd k).cl=false
 cl:∀ k,k < n→(kd k).cl=true→st kd k≠[]
 el:∀ k,k < n→(kd k).el=true→st kd k≠[]
 nc:∀ k,k < n→(kd k).el=true→(kd k).cl=false∧(kd k).op=false
 dn:∀ k,k < n→(kd k).df=true→(kd k).op=true
 fin:st kd n=[]
end
section
variable {kd:Nat→Kd} {n:Nat}
theorem gL {k:Nat} (h:(kd k).op=true) (h':(kd k).cl=false):st kd (k+1)=st kd k ++ [k]:=by simp [st,h,h']
theorem d4 {k:Nat} (h:(kd k).cl=true) (h':(kd k).op=false):st kd (k+1)=(st kd k).dropLast:=by simp [st,h,h']
theorem i6 {k:Nat} (h:(kd k).cl=false) (h':(kd k).op=false):st kd (k+1)=st kd k:=by simp [st,h,h']
theorem WF.Wm (W:WF kd n) {k:Nat} (hk:k < n) (h:(kd k).cl=true):(kd k).op=false:=by
 cases q:(kd k).op with
 | false=>rfl
 | true=>rw [W.ex k hk q] at h; cases h
theorem zU (W:WF kd n) {k:Nat} (hk:k < n) (h:(kd k).op=true):dp kd (k+1)=dp kd k+1:=by
 unfold dp; rw [gL h (W.ex k hk h)]; simp
theorem Ee (W:WF kd n) {k:Nat} (hk:k < n) (h:(kd k).cl=true):dp kd (k+1)+1=dp kd k:=by
 unfold dp; rw [d4 h (W.Wm hk h),Gw]
 have:0 < (st kd k).length:=List.length_pos_iff.mpr (W.cl k hk h)
 omega
theorem Ef {k:Nat} (h:(kd k).cl=false) (h':(kd k).op=false):dp kd (k+1)=dp kd k:=by unfold dp; rw [i6 h h']
theorem rP (W:WF kd n):∀ k,k≤n→∀ i j,(st kd k)[i]?=some j→j < k∧(kd j).op=true∧dp kd j=i∧∀ m,j < m→m≤k→i < dp kd m
 | 0,_,i,j,h=>by simp [st] at h
 | k+1,hk,i,j,h=>by
   have ih:=rP W k (by omega)
   have CD:k < n:=by omega
   have ext:∀ {i j:Nat},(st kd k)[i]?=some j→i < dp kd (k+1)→j < k+1∧(kd j).op=true∧dp kd j=i∧∀ m,j < m→m≤k+1→i < dp kd m:=fun {i j} h hd=>by
    obtain ⟨a,b,c,d⟩:=ih i j h
    refine ⟨by omega,b,c,fun m h1 h2=>?_⟩
    by_cases e:m=k+1
    · rw [e]; exact hd
    · exact d m h1 (by omega)
   by_cases ho:(kd k).op=true
   · rw [gL ho (W.ex k CD ho)] at h
     have hd:=zU W CD ho
     by_cases hi:i < (st kd k).length
     · rw [oq hi] at h
       exact ext h (by rw [hd]; exact GX hi)
     · rw [sA (by omega)] at h
       have e:i - (st kd k).length=0:=by
        cases q:i - (st kd k).length with
        | zero=>rfl
        | succ r=>rw [q] at h; simp at h
       rw [e] at h
       simp at h
       subst h
       have ei:i=dp kd k:=by unfold dp; omega
       refine ⟨by omega,ho,ei.symm,fun m h1 h2=>?_⟩
       have:m=k+1:=by omega
       rw [this,hd,ei]; omega
   · have gx:(kd k).op=false:=by cases q:(kd k).op <;> simp_all
     by_cases hc:(kd k).cl=true
     · rw [d4 hc gx] at h
       have hi:i < (st kd k).dropLast.length:=(cn.mp h).1
       have hd:dp kd (k+1)=(st kd k).dropLast.length:=by unfold dp; rw [d4 hc gx]
       rw [We,if_pos (by rw [Gw] at hi; exact hi)] at h
       exact ext h (by rw [hd]; exact hi)
     · have jS:(kd k).cl=false:=by cases q:(kd k).cl <;> simp_all
       rw [i6 jS gx] at h
       have hd:dp kd (k+1)=dp kd k:=Ef jS gx
       exact ext h (by rw [hd]; exact (cn.mp h).1)
theorem KH (W:WF kd n) {j:Nat} (ho:(kd j).op=true):∀ k,j < k→k≤n→(∀ m,j < m→m≤k→dp kd j < dp kd m)→(st kd k)[dp kd j]?=some j
 | 0,h,_,_=>by omega
 | k+1,h,hk,hm=>by
   have CD:k < n:=by omega
   by_cases e:j=k
   · subst e
     rw [gL ho (W.ex j CD ho)]
     unfold dp
     rw [sA (cA _)]
     simp
   · have ih:=KH W ho k (by omega) (by omega) fun m h1 h2=>hm m h1 (by omega)
     have hd:=hm (k+1) (by omega) (cA _)
     by_cases gx:(kd k).op=true
     · rw [gL gx (W.ex k CD gx),oq (cn.mp ih).1]; exact ih
     · have Nf:(kd k).op=false:=by cases q:(kd k).op <;> simp_all
       by_cases hc:(kd k).cl=true
       · have hl:dp kd (k+1)=(st kd k).length - 1:=by unfold dp; rw [d4 hc Nf,Gw]
         rw [d4 hc Nf,We,if_pos (by omega)]; exact ih
       · have jS:(kd k).cl=false:=by cases q:(kd k).cl <;> simp_all
         rw [i6 jS Nf]; exact ih
noncomputable def jL (kd:Nat→Kd) (n d:Nat):Nat→Nat→Option Nat
 | 0,_=>none
 | f+1,k=>if k < n then (if dp kd (k+1)=d then some k else jL kd n d f (k+1)) else none
noncomputable def endOf (kd:Nat→Kd) (n j:Nat):Option Nat:=jL kd n (dp kd j) (n - (j+1)) (j+1)
theorem k0 {d:Nat}:∀ {f k e:Nat},jL kd n d f k=some e→k≤e∧e < n∧dp kd (e+1)=d∧∀ m,k≤m→m < e→dp kd (m+1)≠d
 | 0,_,_,h=>by cases h
 | f+1,k,e,h=>by
   simp only [jL] at h
   split at h
   · rename_i hk
     split at h
     · rename_i hd
       cases h
       exact ⟨cA _,hk,hd,fun m h1 h2=>by omega⟩
     · rename_i hd
       obtain ⟨a,b,c,r⟩:=k0 h
       refine ⟨by omega,b,c,fun m h1 h2=>?_⟩
       by_cases em:m=k
       · rw [em]; exact hd
       · exact r m (by omega) h2
   · cases h
theorem k4 {d:Nat}:∀ {f k:Nat},jL kd n d f k=none→∀ m,k≤m→m < k+f→m < n→dp kd (m+1)≠d
 | 0,k,_,m,h1,h2,_=>by omega
 | f+1,k,h,m,h1,h2,h3=>by
   simp only [jL] at h
   split at h
   · split at h
     · cases h
     · rename_i hd
       by_cases em:m=k
       · rw [em]; exact hd
       · exact k4 h m (by omega) (by omega) h3
   · omega
theorem IH (W:WF kd n) {k:Nat} (hk:k < n):dp kd k≤dp kd (k+1)+1:=by
 by_cases ho:(kd k).op=true
 · rw [zU W hk ho]; omega
 · have gx:(kd k).op=false:=by cases q:(kd k).op <;> simp_all
   by_cases hc:(kd k).cl=true
   · rw [Ee W hk hc]; exact cA _
   · have jS:(kd k).cl=false:=by cases q:(kd k).cl <;> simp_all
     rw [Ef jS gx]; omega
theorem above (W:WF kd n) {j:Nat} (hj:j < n) (ho:(kd j).op=true):∀ k,j < k→k≤n→(∀ m,j < m→m < k→dp kd (m+1)≠dp kd j)→∀ m,j < m→m≤k→dp kd j < dp kd m
 | 0,h,_,_,m,_,_=>by omega
 | k+1,h,hk,gG,m,h1,h2=>by
   by_cases em:m=k+1
   · subst em
     by_cases e:j=k
     · subst e; rw [zU W hj ho]; omega
     · have ih:=above W hj ho k (by omega) (by omega) (fun m a b=>gG m a (by omega)) k (by omega) (cA _)
       have s:=IH W (k:=k) (by omega)
       have ne:=gG k (by omega) (by omega)
       omega
   · by_cases e:j=k
     · omega
     · exact above W hj ho k (by omega) (by omega) (fun m a b=>gG m a (by omega)) m h1 (by omega)
theorem end_is (W:WF kd n) {j:Nat} (hj:j < n) (ho:(kd j).op=true):∃ e,endOf kd n j=some e∧j < e∧e < n∧dp kd (e+1)=dp kd j∧∀ m,j < m→m < e→dp kd (m+1)≠dp kd j:=by
 cases h:endOf kd n j with
 | some e =>
   obtain ⟨a,b,c,d⟩:=k0 h
   exact ⟨e,rfl,by omega,b,c,fun m h1 h2=>d m (by omega) h2⟩
 | none =>
   exfalso
   have q:=k4 h
   have a:=above W hj ho n hj (cA _) (fun m h1 h2=>q m (by omega) (by omega) h2) n hj (cA _)
   have z:dp kd n=0:=by unfold dp; rw [W.fin]; rfl
   omega
theorem jM:∀ k,(st kd k).Pairwise (· < ·)∧∀ j∈st kd k,j < k
 | 0=>⟨List.Pairwise.nil,fun j h=>(by simp [st] at h)⟩
 | k+1=>by
   obtain ⟨h1,h2⟩:=jM k
   have base:∀ {s:List Nat},s.Sublist (st kd k)→s.Pairwise (· < ·)∧∀ j∈s,j < k:=fun sl=>⟨h1.sublist sl,fun j h=>h2 j (sl.subset h)⟩
   have key:∀ {s:List Nat},s.Sublist (st kd k)→(if (kd k).op=true then s ++ [k] else s).Pairwise (· < ·)∧∀ j∈(if (kd k).op=true then s ++ [k] else s),j < k+1:=fun {s} sl=>by
    obtain ⟨a,b⟩:=base sl
    split
    · refine ⟨List.pairwise_append.mpr ⟨a,List.pairwise_singleton _ _,fun x hx y hy=>by rw [ou.mp hy]; exact b x hx⟩,fun j hj=>?_⟩
      rcases g_.mp hj with h | h
      · exact GX (b j h)
      · rw [ou.mp h]; exact xv _
    · exact ⟨a,fun j hj=>GX (b j hj)⟩
   simp only [st]
   by_cases hc:(kd k).cl=true
   · rw [if_pos hc]; exact key (List.dropLast_sublist _)
   · rw [if_neg hc]; exact key (List.Sublist.refl _)
noncomputable def endsAt (kd:Nat→Kd) (n j:Nat):Option Nat:=if (kd j).op=true then endOf kd n j else none
theorem II (W:WF kd n) {k j:Nat} (hk:k < n) (hc:(kd k).cl=true) (ht:(st kd k).getLast?=some j):endsAt kd n j=some k∧j < k:=by
 have hl:(st kd k)[(st kd k).length - 1]?=some j:=by rw [← UY]; exact ht
 obtain ⟨a,b,c,d⟩:=rP W k (by omega) _ j hl
 obtain ⟨e,h1,h2,h3,h4,h5⟩:=end_is W (by omega) b
 refine ⟨?_,a⟩
 unfold endsAt
 rw [if_pos b,h1]
 congr 1
 have hd:=Ee W hk hc
 have Ii:dp kd (k+1)=dp kd j:=by rw [c]; unfold dp at hd ⊢; omega
 rcases Nat.lt_or_ge e k with l | l
 · have:=d (e+1) (by omega) (by omega)
   omega
 · rcases Nat.lt_or_ge k e with l2 | l2
   · exact absurd Ii (h5 k a l2)
   · omega
theorem zV (W:WF kd n) {k j:Nat} (hk:k < n) (he:endsAt kd n j=some k) (hj:j < n):(kd k).cl=true∧(st kd k).getLast?=some j:=by
 unfold endsAt at he
 by_cases ho:(kd j).op=true
 · rw [if_pos ho] at he
   obtain ⟨e,h1,h2,h3,h4,h5⟩:=end_is W hj ho
   rw [h1] at he
   cases he
   have ab:=above W hj ho k h2 (by omega) fun m x y=>h5 m x y
   have hk0:=ab k h2 (cA _)
   have hc:(kd k).cl=true:=by
    cases q:(kd k).cl with
    | true=>rfl
    | false =>
      exfalso
      by_cases gx:(kd k).op=true
      · rw [zU W hk gx] at h4; omega
      · rw [Ef q (by cases r:(kd k).op <;> simp_all)] at h4; omega
   refine ⟨hc,?_⟩
   have hd:=Ee W hk hc
   have:=KH W ho k h2 (by omega) ab
   rw [UY]
   have e:(st kd k).length - 1=dp kd j:=by unfold dp at hd h4 ⊢; omega
   rw [e]; exact this
 · rw [if_neg ho] at he; cases he
end
end K5
namespace VT
open PySem PySem.Spec PyProof.Rows L2
structure Eg (K:PySem.W.Frag) (H H':Hp) (Ox:List Addr) (us:List T) (p:Addr) (ls:List Addr):Prop where
 same:aX H H'
 tup:H' p=some (.tup (ls.map V.ref))
 nd:ls.Nodup
 new:∀ a∈ls,H a=none
 rts:Paired (fun a t=>cC K H' (ls ++ Ox) a t) ls us
noncomputable def Rx (K:PySem.W.Frag) (n:Nat) (G:List T→(List T→Prop)→Prop):Sp:=fun vs H Q _=>∃ ts Ox q,(∀ a∈Ox,H a≠none)∧aA K H Ox ts vs∧ts.length=n∧G ts q ∧
 ∀ us,q us→∀ p ls H',Eg K H H' Ox us p ls→Q (.ref p) H'
structure X5 (K:PySem.W.Frag) (Z:Zc) (tm:List (T×V)) (d:GJ) (dp:List T→Prop) (D:Ends):Prop where
 fin:Fin K Z tm d D
 dp:∀ us,dp us→∀ p ls H',Eg K Z.H0 H' Z.Ox us p ls→D.rt (.ref p) H'
noncomputable abbrev Ng:=GJ→(List T→Prop)→En→Prop
noncomputable def lSD (X:Cx) (Z:Zc) (tm:List (T×V)) (g:Ng):TS:=fun D σ H=>∃ ρ O d dp,aw X.K Z tm O ρ σ H∧g d dp ρ∧X5 X.K Z tm d dp D
noncomputable def Eh (X:Cx) (Z:Zc) (st:List Stmt) (g:Ng):Prop:=Bx fun tm=>nY X st (lSD X Z tm g)
noncomputable instance {X:Cx} {Z:Zc} {st:List Stmt} {g:Ng}:CoeFun (Eh X Z st g) fun _=>∀ tm,nY X st (lSD X Z tm g):=⟨fun h=>Bx.h h⟩
noncomputable def IJ (ρ:En):List Nat→Option (List T)
 | []=>some []
 | i :: is=>match ρ[i]?,IJ ρ is with
   | some (some (t,true)),some ts=>some (t :: ts)
   | _,_=>none
section
variable {X:Cx} {Z:Zc} {st:Stmt} {rest:List Stmt} {g:FS} {u:Ng} {pos:Pos}
noncomputable def Ry (g:FS) (u:Ng):Ng:=fun d dp ρ=>g { d with nx:=u d dp } ρ
theorem ie (h1:VS X Z st g) (h2:Eh X Z rest u):Eh X Z (st :: rest) (Ry g u):=.mk fun tm=>nY.vh (uX (h1 tm) (h2 tm)) fun D σ H ⟨ρ,O,d,dp,I,h,F⟩ =>
 ⟨ρ,O,{ d with nx:=u d dp },I,h,⟨fun O' ρ' σ' H' I' h'=>⟨ρ',O',d,dp,I',h',F⟩,F.fin.rt,F.fin.bk,F.fin.ct⟩⟩
noncomputable def tQ (X:Cx):List Expr→List Nat→Prop
 | [],is=>is=[]
 | e :: es,is=>∃ x p i js,e = .Name x p∧is=i :: js∧X.N[i]?=some x∧xA X.env.scope x∧(x == ("__debug__" : Str))=false∧(x == ("__classdict__" : Str))=false∧starEach (e :: es) X.env=(false,eval e X.env) :: starEach es X.env∧tQ X es js
noncomputable def Rz (is:List Nat):TA:=fun σ H Q=>∃ vs,Paired (fun (i:Nat) (v:V)=>σ[i]?=some (some v)) is vs∧Q vs H
theorem zW:∀ {es:List Expr} {is:List Nat},tQ X es is→PA X es (Rz is)
 | [],is,h=>fun pos pins s σ H Q I ⟨vs,hv,q⟩=>by
   have e:is=[]:=h
   subst e
   cases hv
   exact d6 pos pins s σ H Q I q
 | e :: es,is,h=>by
   obtain ⟨x,p,i,js,rfl,rfl,h1,h2,h3,h4,h5,h6⟩:=h
   exact PA.weak (bS (fm h1 h2 h3 h4) (zW h6) h5) fun σ H Q ⟨vs,hv,q⟩=>by
    cases hv with
    | cons r t=>exact ⟨_,r,_,t,q⟩
theorem vL {K:PySem.W.Frag} {tm:List (T×V)} {O:List (Option Addr)} {ρ:En} {σ:St} {H:Hp} (I:aw K Z tm O ρ σ H):∀ {is:List Nat} {ts:List T},IJ ρ is=some ts →
  ∃ ls:List Addr,Paired (fun (i:Nat) (v:V)=>σ[i]?=some (some v)) is (ls.map V.ref)∧Paired (fun (i:Nat) (a:Addr)=>O[i]?=some (some a)) is ls∧Paired (fun a t=>cC K H (av Z O) a t) ls ts
 | [],ts,h=>by cases h; exact ⟨[],.nil,.nil,.nil⟩
 | i :: is,ts,h=>by
   simp only [IJ] at h
   split at h
   · rename_i t us e1 e2
     cases h
     obtain ⟨a,h1,h2,h3⟩:=I.root e1
     obtain ⟨ls,g1,g2,g3⟩:=vL I e2
     exact ⟨a :: ls,.cons h2 g1,.cons h1 g2,.cons h3 g3⟩
   · cases h
theorem gZ {α β:Type} {R:α→β→Prop} {l:List α} {m:List β} (h:Paired R l m) {b:β} (hb:b∈m):∃ a∈l,R a b:=by
 induction h with
 | nil=>cases hb
 | cons r t ih =>
   rcases cZ.mp hb with e | hb
   · subst e; exact ⟨_,iw,r⟩
   · obtain ⟨a,h1,h2⟩:=ih hb; exact ⟨a,jc _ h1,h2⟩
theorem yt {K:PySem.W.Frag} {tm:List (T×V)} {O:List (Option Addr)} {ρ:En} {σ:St} {H:Hp} (I:aw K Z tm O ρ σ H) {is:List Nat} {ls:List Addr} (nd:is.Nodup) (h:Paired (fun (i:Nat) (a:Addr)=>O[i]?=some (some a)) is ls):ls.Nodup:=by
 induction h with
 | nil=>exact OZ
 | cons r t ih =>
   rw [ow] at nd ⊢
   refine ⟨fun m=>?_,ih nd.2⟩
   obtain ⟨j,hj,e⟩:=gZ t m
   exact nd.1 (by rw [DH I r e]; exact hj)
noncomputable def KI (is:List Nat):Ng:=fun _ dp ρ=>match IJ ρ is with
 | some ts=>dp ts
 | none=>False
theorem IL {es:List Expr} {is:List Nat} {x1} {p:Pos} (hP:Z.P=[]) (hn:tQ X es is) (nd:is.Nodup) (hl:is.length≤100):Eh X Z [.Return (some (.Tuple es x1 p)) pos] (KI is):=.mk fun tm =>
 zq (PS.weak (CS (C3 (zW hn))) fun D σ H ⟨ρ,O,d,dp,I,h,F⟩=>by
  unfold KI at h
  split at h
  · rename_i ts e
    obtain ⟨ls,g1,g2,g3⟩:=vL I e
    refine ⟨ls.map V.ref,g1,?_,fun q hq=>F.dp ts h q ls _ ⟨?_,a_,yt I nd g2,fun a ha=>?_,?_⟩⟩
    · rw [b_,← O0 g2,sizeLine_eq]; omega
    · intro b o eb
      have:=I.keep b o eb (by rw [hP]; exact fun z=>nomatch z)
      rw [aW (bh this hq)]; exact this
    · obtain ⟨i,_,e⟩:=gZ g2 ha
      rcases (I.own a (aQ.mpr (j7 e))).1 with z | z
      · rw [hP] at z; exact nomatch z
      · exact z
    · refine Paired.oy g3 fun a t r=>(r.same (aU hq)).bo fun b hb=>?_
      rcases g_.mp hb with z | z
      · obtain ⟨i,_,e⟩:=gZ g2 z
        exact jR _ (aQ.mpr (j7 e))
      · exact jW _ z
  · exact h.elim)
end
section
variable {P:Program} {w:World} {K:PySem.W.Frag} {mg:Str→Option Value} {base:Heap}
theorem kl (n:Nat):roots (List.replicate n none)=[]:=by
 unfold roots
 induction n with
 | zero=>rfl
 | succ n ih=>rw [ot,nX]; exact ih
theorem Bl {N:List Str} {H:Hp} {Ox:List Addr} {ts:List T} {vs:List V} (hN:ts.length≤N.length) (ox:∀ a∈Ox,H a≠none) (h:aA K H Ox ts vs) :
  aw K ⟨H,[],Ox⟩ [] (List.replicate N.length none) (ts.map (fun t=>some (t,false)) ++ List.replicate (N.length - ts.length) none) (start N vs) H:=by
 have hl:=h.length
 have ea:av ⟨H,[],Ox⟩ (List.replicate N.length none)=Ox:=by unfold av; rw [kl]; rfl
 refine ⟨?_,by simp; omega,fun i e he=>?_,by rw [kl]; exact OZ,fun a ha=>?_,fun p hp=>(nomatch hp),ox,fun b o e _=>e,fun p hp=>(nomatch hp)⟩
 · unfold L2.start; simp [hl]
 · rw [ea]
   by_cases hi:i < ts.length
   · rw [oq (by simpa using hi),gw] at he
     have e1:ts[i]?=some ts[i]:=by simp
     rw [e1] at he
     cases he
     obtain ⟨v,h1,h2⟩:=h.get e1
     refine ⟨none,some v,by rw [Av,if_pos (by omega)],?_,rfl,v,rfl,h2⟩
     unfold L2.start
     rw [oq (by rw [b_]; omega),gw,h1]
     rfl
   · rw [sA (by simpa using hi),Av] at he
     split at he
     · rename_i gz
       cases he
       rw [b_] at gz
       refine ⟨none,none,by rw [Av,if_pos (by omega)],?_,rfl⟩
       unfold L2.start
       rw [sA (by rw [b_]; omega),Av,b_,if_pos (by omega)]
     · cases he
 · rw [kl] at ha; exact nomatch ha
theorem fnD {x qual:Str} {st:Stmt} {f:Addr} {fd:FuncData} {N ps:List Str} {k n:Nat} {G:List T→(List T→Prop)→Prop} (F:Di K x qual st f fd) (S:aN N ps (ak st)) (hn:n=ps.length) (hN:n≤N.length)
  (jh:∀ (bO:Value) (A:Around) (outer:List Env) (s:Shared) (H:Hp) (E:XK) (Ox:List Addr),bA k (A.deeper (envOfC qual (ak st) s.heap.objs.size f bO))→∀ ts q,G ts q →
    ∃ g,Eh (iA jk P w K mg base N qual (ak st) f bO A outer s H E).uW ⟨H,[],Ox⟩ (cQ st) g∧(ts.length=n→g { nx:=fun _=>False,rt:=fun _ _=>False } q (ts.map (fun t=>some (t,false)) ++ List.replicate (N.length - ts.length) none))) :
  d0 P w K mg base jk (k+1) f fd ps (Rx K n G):=by
 refine F.ok S (fun vs H Q E h=>?_) (fun bO A outer s H vs Q E hr h=>?_)
 · obtain ⟨ts,Ox,q,_,ha,hl,_⟩:=h
   rw [ha.length,hl,hn]
 · obtain ⟨ts,Ox,q,ox,ha,hl,hG,kk⟩:=h
   obtain ⟨g,hg,hq⟩:=jh bO A outer s H E Ox hr ts q hG
   exact ⟨_,hg [],_,_,_,q,Bl (by omega) ox ha,hq hl,⟨⟨fun _ _ _ _ _ h=>h.elim,fun _ _ _ _ _ _ _ h=>h.elim,fun _ _ _ _ _ h=>h.elim,fun _ _ _ _ _ h=>h.elim⟩,fun us hu p ls H' D=>kk us hu p ls H' D⟩⟩
end
section
variable {X:Cx} {Z:Zc} {k n:Nat} {f:Addr} {fd:FuncData} {ps:List Str} {G:List T→(List T→Prop)→Prop} {x:Str} {p pos:Pos} {e:Expr} {es:List Expr} {g:FA}
noncomputable def lD (X:Cx) (Z:Zc) (tm:List (T×V)) (f:En→(List T→Prop)→Prop):TE:=fun σ H Q=>∃ ρ O q,aw X.K Z tm O ρ σ H∧f ρ q∧∀ us,q us→∀ p ls H',Eg X.K H H' (av Z O) us p ls→Q (.ref p) H'
noncomputable def VD (X:Cx) (Z:Zc) (e:Expr) (f:En→(List T→Prop)→Prop):Prop:=Bx fun tm=>PE X e (lD X Z tm f)
noncomputable instance {X:Cx} {Z:Zc} {e:Expr} {f:En→(List T→Prop)→Prop}:CoeFun (VD X Z e f) fun _=>∀ tm,PE X e (lD X Z tm f):=⟨fun h=>Bx.h h⟩
noncomputable def Nh (n:Nat) (g:FA) (G:List T→(List T→Prop)→Prop):En→(List T→Prop)→Prop:=fun ρ Q=>g ρ fun ts=>ts.length=n∧G ts Q
theorem IM (F:d0 X.prog X.w X.K X.mg X.base jk k f fd ps (Rx X.K n G)) (hr:bA k X.A) (hg:Gl X x) (hm:X.mg x=some (.ref f)) (hk:PySem.W.keepIn X.K (.ref f)=true) (hb:Binds X.K fd ps []) (ha:VA X Z (e :: es) g)
  (qj:(x == ("__debug__" : Str))=false:=by decide) (he:starEach (e :: es) X.env=(false,eval e X.env) :: starEach es X.env:=by rfl) (jg:(backTo pos (starEach es X.env)).any (·.1)=false:=by rfl) :
  VD X Z (.Call (.Name x p) (e :: es) [] pos) (Nh n g G):=.mk fun tm=>PE.weak (nZ F hr hg hm hk hb .nil rE (ha tm) qj he jg) fun σ H Q ⟨ρ,O,q,I,hf,k⟩ =>
 ⟨ρ,O,_,I,hf,fun ts fj vs H1 s1 a1=>by
   show Rx X.K n G (vs ++ []) H1 Q E0
   rw [xw]
   refine ⟨ts,av Z O,q,(I.same s1).Km,a1,fj.1,fj.2,fun us hu p ls H' D=>k us hu p ls H' ⟨s1.trans D.same,D.tup,D.nd,fun a ha=>?_,D.rts⟩⟩
   cases z:H a with
   | none=>rfl
   | some o=>have:=D.new a ha; rw [s1 _ _ z] at this; cases this⟩
theorem Eg.at {K:PySem.W.Frag} {tm:List (T×V)} {O:List (Option Addr)} {ρ:En} {σ:St} {H H':Hp} {us:List T} {p:Addr} {ls:List Addr} (I:aw K Z tm O ρ σ H) (D:Eg K H H' (av Z O) us p ls):At K H' (av Z O) (.tup us) (.ref p):=by
 refine bu (dZ.of D.tup) (aA.iff.mpr ?_)
 have key:∀ {VL:List Addr} {VM:List T},(∀ a∈VL,a∈ls)→Paired (fun a t=>cC K H' (ls ++ av Z O) a t) VL VM→Paired (fun v t=>At K H' (av Z O) t v) (VL.map V.ref) VM:=by
  intro VL VM sub h
  induction h with
  | nil=>exact .nil
  | cons r t ih =>
    refine .cons ((r.bo fun b hb=>jW _ hb).at fun z=>?_) (ih fun a ha=>sub a (jc _ ha))
    exact I.Km _ z (D.new _ (sub _ iw))
 exact key (fun _ h=>h) D.rts
noncomputable def RA (f:En→(List T→Prop)→Prop):FP:=fun ρ Q=>f ρ fun us=>Q (.vw (.tup us))
theorem VD.vp {f:En→(List T→Prop)→Prop} (h:VD X Z e f):VP X Z e (RA f):=.mk fun tm=>PE.weak (h tm) fun σ H Q ⟨ρ,O,q,I,hf,k⟩ =>
 ⟨ρ,O,_,I,hf,fun us hu p ls H' D=>k _ hu _ H' D.same ⟨I.same D.same,D.at I⟩⟩
end
theorem aw.nh {K:PySem.W.Frag} {Z:Zc} {tm:List (T×V)} {O:List (Option Addr)} {ρ:En} {σ:St} {H:Hp} (I:aw K Z tm O ρ σ H) {i:Nat} (s:Option V) (hp:a9 Z i):aw K Z tm (O.set i none) (ρ.set i none) (σ.set i s) H:=by
 have J:=I.forget hp
 refine ⟨by simp [I.lσ],J.lO,fun j e h=>?_,J.nd,J.own,J.par,J.ox,J.keep,J.qf⟩
 obtain ⟨o,w,h1,h2,h3⟩:=J.sl j e h
 rcases get_set h with ⟨rfl,rfl,hl⟩ | ⟨ne,h'⟩
 · exact ⟨o,s,h1,by rw [Aw (by rw [I.lσ]; exact hl)],h3⟩
 · exact ⟨o,w,h1,by rw [qg (Ne.symm ne)]; exact h2,h3⟩
section
variable {X:Cx} {Z:Zc}
end
section
variable {X:Cx} {Z:Zc}
end
end VT
namespace K5
open PySem L2 VT Gen
noncomputable def wordOf:Rw→Str
 | .df _ _=>"def" | .give _=>"give" | .put _ _=>"put" | .CC _ _ _ _=>"do" | .new _=>"new" | .get _ _ _=>"get" | .set _ _ _=>"set" | .call _ _ _=>"call" | .fail _=>"fail"
 | .Bb _=>"if" | .qF=>"else" | .tE _=>"while" | .fin=>"end" | .skip=>"skip"
theorem ig (r:Rw):∃ l,ax r = .tup (.str (wordOf r) :: l):=by cases r <;> exact ⟨_,rfl⟩
noncomputable def au:Rw→Kd
 | .df _ _=>⟨true,false,false,true⟩
 | .give _=>⟨false,true,false,false⟩
 | .Bb _=>⟨true,false,false,false⟩
 | .qF=>⟨false,false,true,false⟩
 | .tE _=>⟨true,false,false,false⟩
 | .fin=>⟨false,true,false,false⟩
 | _=>⟨false,false,false,false⟩
theorem RB (r:Rw):decide (wordOf r="def")=(au r).df:=by cases r <;> first | rfl | decide +kernel
theorem RC (r:Rw):decide (wordOf r="else")=(au r).el:=by cases r <;> first | rfl | decide +kernel
theorem RD (r:Rw):vB (.str (wordOf r)) [.str "give",.str "end"]=(au r).cl:=by cases r <;> first | rfl | decide +kernel
theorem RE (r:Rw):vB (.str (wordOf r)) [.str "def",.str "if",.str "while"]=(au r).op:=by cases r <;> first | rfl | decide +kernel
noncomputable def bq (rs:List Rw) (k:Nat):Kd:=match rs[k]? with
 | some r=>au r
 | none=>⟨false,false,false,false⟩
theorem bP {rs:List Rw} {k:Nat} {r:Rw} (h:rs[k]?=some r):bq rs k=au r:=by unfold bq; rw [h]
noncomputable def rQ (rs:List Rw):Prop:=WF (bq rs) rs.length
noncomputable def oT:Option Nat→T
 | none=>.bb
 | some k=>.int (k:Int)
noncomputable def tab (f:Nat→Option Nat) (n k:Nat):List T:=(List.range n).map fun i=>if i < k then oT (f i) else .bb
noncomputable def jb (e:Nat→Option Nat) (n k:Nat):List T:=(List.range n).map fun j=>match e j with
 | some m=>if m < k then .int (m:Int) else .bb
 | none=>.bb
theorem k5 (f n k):(tab f n k).length=n:=by simp [tab]
theorem vM (f n k):(jb f n k).length=n:=by simp [jb]
theorem vN (f n):tab f n 0=List.replicate n .bb:=by
 unfold tab
 rw [List.eq_replicate_iff]
 exact ⟨by simp,fun x hx=>by simp at hx; exact hx.2.symm⟩
theorem Bm (f n):jb f n 0=List.replicate n .bb:=by
 unfold jb
 rw [List.eq_replicate_iff]
 refine ⟨by simp,fun x hx=>?_⟩
 obtain ⟨j,_,rfl⟩:=uO.mp hx
 split <;> simp
theorem oh {f:Nat→Option Nat} {n k:Nat}:(tab f n k).set k (oT (f k))=tab f n (k+1):=by
 refine Gy fun i=>?_
 rw [Va,k5]
 unfold tab
 rw [gw,gw]
 by_cases hi:i < n
 · rw [Gv hi]
   by_cases e:k=i
   · subst e; rw [if_pos rfl,if_pos hi]; simp
   · rw [if_neg e]
     simp only [OX]
     by_cases l:i < k
     · rw [if_pos l,if_pos (by omega)]
     · rw [if_neg l,if_neg (by omega)]
 · rw [xH (by simp; omega)]
   split
   · rw [if_neg (by omega)]; rfl
   · rfl
theorem vO {f:Nat→Option Nat} {n k:Nat} (h:f k=none):tab f n k=tab f n (k+1):=by
 unfold tab
 refine PR fun i _=>?_
 by_cases e:i=k
 · subst e; rw [if_neg (Cr _),if_pos (xv _),h]; rfl
 · by_cases l:i < k
   · rw [if_pos l,if_pos (by omega)]
   · rw [if_neg l,if_neg (by omega)]
theorem vP (f n):tab f n n=(List.range n).map fun i=>oT (f i):=by
 unfold tab
 exact PR fun i hi=>by rw [if_pos (Cp.mp hi)]
theorem Ei {e:Nat→Option Nat} {n k j:Nat} (h:e j=some k) (u:∀ i,i < n→e i=some k→i=j):(jb e n k).set j (.int (k:Int))=jb e n (k+1):=by
 refine Gy fun i=>?_
 rw [Va,vM]
 unfold jb
 rw [gw,gw]
 by_cases hi:i < n
 · rw [List.getElem?_range hi]
   by_cases q:j=i
   · subst q; rw [if_pos rfl,if_pos hi]; simp [h]
   · rw [if_neg q]
     simp only [OX]
     cases r:e i with
     | none=>rfl
     | some m =>
       have:m≠k:=fun z=>q (u i hi (by rw [r,z])).symm
       simp only
       by_cases l:m < k
       · rw [if_pos l,if_pos (by omega)]
       · rw [if_neg l,if_neg (by omega)]
 · rw [xH (by simp; omega)]
   split
   · rw [if_neg (by omega)]; rfl
   · rfl
theorem Bn {e:Nat→Option Nat} {n k:Nat} (u:∀ i,i < n→e i≠some k):jb e n k=jb e n (k+1):=by
 unfold jb
 refine PR fun i hi=>?_
 cases r:e i with
 | none=>rfl
 | some m =>
   have:m≠k:=fun z=>u i (Cp.mp hi) (by rw [r,z])
   simp only
   by_cases l:m < k
   · rw [if_pos l,if_pos (by omega)]
   · rw [if_neg l,if_neg (by omega)]
theorem Bo {e:Nat→Option Nat} {n:Nat} (h:∀ j m,j < n→e j=some m→m < n):jb e n n=(List.range n).map fun i=>oT (e i):=by
 unfold jb
 refine PR fun i hi=>?_
 cases r:e i with
 | none=>rfl
 | some m=>simp only; rw [if_pos (h i m (Cp.mp hi) r)]; rfl
section
variable (kd:Nat→Kd)
noncomputable def ni (k:Nat):Option Nat:=(st kd k).getLast?
noncomputable def kA (k:Nat):Option Nat:=if (kd k).df=true then some k else (st kd k).head?
noncomputable def yu (n:Nat):Nat→List T
 | 0=>List.replicate n .bb
 | k+1=>match (kd k).el,ni kd k with
   | true,some h=>(yu n k).set h (.int (k:Int))
   | _,_=>yu n k
end
theorem tR (kd n):∀ k,(yu kd n k).length=n
 | 0=>by simp [yu]
 | k+1=>by
   simp only [yu]
   split
   · rw [G2]; exact tR kd n k
   · exact tR kd n k
noncomputable def Ej (rs:List Rw):List T:=[.lst ((List.range rs.length).map fun i=>oT (ni (bq rs) i)),.lst ((List.range rs.length).map fun i=>oT (endsAt (bq rs) rs.length i)),.lst (yu (bq rs) rs.length rs.length),.lst ((List.range rs.length).map fun i=>oT (kA (bq rs) i))]
theorem Ek (rs:List Rw):jr (rs.map ax)=(rs.zipIdx).map fun p=>.tup [.int (p.2:Int),ax p.1]:=by
 unfold jr
 refine Gy fun i=>?_
 rw [PQ,gw,gw,List.getElem?_zipIdx]
 cases rs[i]? <;> simp
noncomputable def dr:Nat→List Rw→Option Nat
 | d,[]=>some d
 | d,r :: rs=>if (au r).cl=true then (if d=0 then none else dr (d - 1) rs) else if (au r).el=true then (if d=0 then none else dr d rs) else if (au r).op=true then dr (d+1) rs else dr d rs
theorem fz:∀ (a b:List Rw) (d:Nat),dr d (a ++ b)=(dr d a).bind fun e=>dr e b
 | [],b,d=>rfl
 | r :: a,b,d=>by
   simp only [Vb,dr]
   split
   · split
     · rfl
     · exact fz a b _
   · split
     · split
       · rfl
       · exact fz a b _
     · split
       · exact fz a b _
       · exact fz a b _
theorem El (rs:List Rw) {k:Nat} {r:Rw} (h:rs[k]?=some r):(st (bq rs) (k+1)).length=(if (au r).cl=true then (st (bq rs) k).length - 1 else if (au r).op=true then (st (bq rs) k).length+1 else (st (bq rs) k).length):=by
 have bW:=bP h
 by_cases hc:(au r).cl=true
 · have ho:(au r).op=false:=by cases r <;> first | rfl | (cases hc)
   rw [if_pos hc,d4 (by rw [bW]; exact hc) (by rw [bW]; exact ho),Gw]
 · have jS:(au r).cl=false:=by cases q:(au r).cl <;> simp_all
   rw [if_neg hc]
   by_cases ho:(au r).op=true
   · rw [if_pos ho,gL (by rw [bW]; exact ho) (by rw [bW]; exact jS)]; simp
   · rw [if_neg ho,i6 (by rw [bW]; exact jS) (by rw [bW]; cases q:(au r).op <;> simp_all)]
theorem oi {rs:List Rw} (h:dr 0 rs=some 0):∀ k,k≤rs.length→dr 0 (rs.take k)=some (st (bq rs) k).length
 | 0,_=>rfl
 | k+1,hk=>by
   have ih:=oi h k (by omega)
   have e:rs[k]?=some rs[k]:=by simp
   have et:rs.take (k+1)=rs.take k ++ [rs[k]]:=by rw [List.take_succ,e]; rfl
   have hs:(dr 0 (rs.take (k+1))).isSome=true:=by
    rw [← List.take_append_drop (k+1) rs,fz] at h
    cases q:dr 0 (rs.take (k+1)) with
    | some _=>rfl
    | none=>rw [q] at h; cases h
   rw [et,fz,ih,OU] at hs ⊢
   rw [El rs e]
   simp only [dr] at hs ⊢
   by_cases hc:(au rs[k]).cl=true
   · rw [if_pos hc,if_pos hc] at *
     by_cases z:(st (bq rs) k).length=0
     · rw [if_pos z] at hs; cases hs
     · rw [if_neg z]
   · rw [if_neg hc,if_neg hc] at *
     by_cases hl:(au rs[k]).el=true
     · have ho:¬ (au rs[k]).op=true:=by
        generalize rs[k]=r at hl
        cases r <;> first | (cases hl; done) | (intro z; cases z)
       rw [if_pos hl,if_neg ho] at *
       by_cases z:(st (bq rs) k).length=0
       · rw [if_pos z] at hs; cases hs
       · rw [if_neg z]
     · rw [if_neg hl] at *
       split <;> rfl
theorem Em {rs:List Rw} (h:dr 0 rs=some 0):rQ rs:=by
 have at':∀ {k:Nat},k < rs.length→∃ r,rs[k]?=some r∧bq rs k=au r:=fun {k} hk=>⟨rs[k],by simp,bP (by simp)⟩
 have step:∀ {k:Nat} {r:Rw},rs[k]?=some r→(au r).cl=true∨(au r).el=true→st (bq rs) k≠[]:=fun {k r} hr Dm z=>by
  have hk:k < rs.length:=(cn.mp hr).1
  have h1:=oi h k (by omega)
  have h2:=oi h (k+1) (by omega)
  have et:rs.take (k+1)=rs.take k ++ [r]:=by rw [List.take_succ,hr]; rfl
  rw [et,fz,h1,OU,z] at h2
  simp only [dr,PX] at h2
  rcases Dm with q | q
  · rw [if_pos q,if_pos True.intro] at h2; cases h2
  · by_cases q2:(au r).cl=true
    · rw [if_pos q2,if_pos True.intro] at h2; cases h2
    · rw [if_neg q2,if_pos q,if_pos True.intro] at h2; cases h2
 refine ⟨fun k hk ho=>?_,fun k hk hc=>?_,fun k hk hc=>?_,fun k hk hc=>?_,fun k hk hc=>?_,?_⟩
 · obtain ⟨r,hr,e⟩:=at' hk
   rw [e] at ho ⊢
   cases r <;> first | rfl | (cases ho)
 · obtain ⟨r,hr,e⟩:=at' hk
   exact step hr (.inl (by rw [← e]; exact hc))
 · obtain ⟨r,hr,e⟩:=at' hk
   exact step hr (.inr (by rw [← e]; exact hc))
 · obtain ⟨r,hr,e⟩:=at' hk
   rw [e] at hc ⊢
   cases r <;> first | exact ⟨rfl,rfl⟩ | (cases hc)
 · obtain ⟨r,hr,e⟩:=at' hk
   rw [e] at hc ⊢
   cases r <;> first | rfl | (cases hc)
 · have:=oi h rs.length (cA _)
   rw [OW,h] at this
   exact Cn.mp (Option.some.inj this).symm
theorem vQ {ys:List Str} {pl:Plan} {r:Rw} (h:h7 ys pl r):(au r).cl=false∧(au r).el=false∧(au r).op=false:=by
 cases r <;> first | exact ⟨rfl,rfl,rfl⟩ | exact h.elim
theorem Ni {ys:List Str} {pl:Plan} {bE new cK} (h:kj ys pl bE new cK) {d:Nat} (hd:0 < d):dr (d+bE.length) new=some (d+cK.length):=by
 rcases h with ⟨o,_,rfl,rfl⟩ | ⟨o,_,rfl,rfl⟩ | ⟨y,_,rfl,rfl⟩ | ⟨s0,rfl,rfl,rfl⟩ | ⟨s0,x,rfl,rfl,rfl⟩ | ⟨r,hs,rfl,rfl⟩
 · simp [dr,au]; omega
 · simp [dr,au]; omega
 · simp [dr,au]; omega
 · simp [dr,au]
 · simp [dr,au]
 · obtain ⟨a,b,c⟩:=vQ hs
   simp [dr,a,b,c]
theorem IQ {ys:List Str} {later:Plan} {bE:List Str} {body:List Rw} (h:Body ys later bE body) {d:Nat} (hd:0 < d):dr d body=some (d+bE.length):=by
 induction h with
 | nil=>rfl
 | step _ hl ih=>rw [fz,ih,OU]; exact Ni hl hd
theorem zX:∀ (n d:Nat),dr (d+n) (List.replicate n Rw.fin)=some d
 | 0,d=>rfl
 | n+1,d=>by
   rw [ot]
   simp only [dr,au,if_true]
   rw [if_neg (by omega)]
   exact zX n d
theorem Nj {ys:List Str} {pl:Plan} {k:Nat} {rs:List Rw} (h:Pre ys pl k rs):dr 0 rs=some 0:=by
 induction h with
 | zero=>rfl
 | succ _ _ hb _ X6 ih =>
   rw [fz,ih,OU]
   show dr 1 _=some 0
   rw [fz,IQ hb (by decide),OU,fz,zX,OU]
   rcases X6 with rfl | rfl <;> rfl
end K5
namespace Nk
open PySem L2 VT Gen
open Dr (bF GI dy)
noncomputable def one (c:Nat):Str:=⟨#[c]⟩
theorem empty_eq:(("" : String):Str)=⟨#[]⟩:=by decide +kernel
theorem glue:∀ l:List Nat,Txt.join "" (l.map one)=⟨l.toArray⟩
 | []=>by decide +kernel
 | c :: l=>by
   have ih:=glue l
   unfold Txt.join at ih ⊢
   rw [StrLaws.glued_eq_join] at ih ⊢
   cases l with
   | nil=>rfl
   | cons d l =>
     rw [g9,g9]
     show one c ++ (("" : String):Str) ++ Str.join _ (one d :: l.map one)=_
     rw [g9] at ih
     rw [ih,empty_eq]
     show (⟨(#[c] ++ #[]) ++ (d :: l).toArray⟩:Str)=_
     simp
noncomputable def bL (n:Int) (j:Nat):Nat:=qD (n / (7 * (j:Int)+3))
noncomputable def d5 (n:Int):List Str:=(List.range 8).map fun j=>one (bL n j)
noncomputable def Nl (n:Int) (k:Nat):Str:=⟨((List.range (k+1)).map (bL n)).toArray⟩
noncomputable def qG (n:Int) (p k j:Nat):Nat:=if j=p then qD (n / 5+(k:Int)) else bL n j
noncomputable def alt (n:Int) (sz p k:Nat):Str:=⟨((List.range sz).map (qG n p k)).toArray⟩
structure tS (m:Nat) (ys:List Str):Prop where
 l:ys.length=m
 nd:ys.Nodup
 nm:∀ y∈ys,dy y=true
theorem o8 (n:Int):(d5 n).length=8:=by simp [d5]
theorem vR (l:List Nat) (h1:1≤l.length) (h8:l.length≤8) (h:∀ c∈l,GI c=true):dy ⟨l.toArray⟩=true:=by
 unfold dy
 have e:(⟨l.toArray⟩:Str).length=l.length:=by simp [Str.length]
 rw [e,decide_eq_true (by omega),decide_eq_true (by omega),uN,uN]
 exact G0.mpr h
theorem Nm (n:Int) {m:Nat} (hm:m≤8):tS m ((List.range m).map (Nl n)):=by
 refine ⟨by simp,?_,fun y hy=>?_⟩
 · rw [List.Nodup,List.pairwise_map]
   refine List.Pairwise.imp_of_mem ?_ (List.nodup_range (n:=m))
   intro i j hi hj gG e
   have e2:(Nl n i).length=(Nl n j).length:=by rw [e]
   simp [Nl,Str.length] at e2
   exact gG e2
 · obtain ⟨k,hk,rfl⟩:=uO.mp hy
   have CD:=Cp.mp hk
   refine vR _ (by simp) (by simp; omega) fun c hc=>?_
   obtain ⟨j,_,rfl⟩:=uO.mp hc
   exact zR _
theorem Nn (n:Int) {sz p m:Nat} (h1:1≤sz) (h8:sz≤8) (hp:p < sz) (hm:m≤26):tS m ((List.range m).map (alt n sz p)):=by
 refine ⟨by simp,?_,fun y hy=>?_⟩
 · rw [List.Nodup,List.pairwise_map]
   refine List.Pairwise.imp_of_mem ?_ (List.nodup_range (n:=m))
   intro i j hi hj gG e
   have Dp:=Cp.mp hi
   have Pf:=Cp.mp hj
   have h2:(List.range sz).map (qG n p i)=(List.range sz).map (qG n p j):=by
    have:=congrArg (fun y:Str=>y.cps.toList) e
    exact this
   have h3:=congrArg (fun l:List Nat=>l[p]?) h2
   simp only [gw,Gv hp,OX,Option.some.injEq,qG,if_true] at h3
   have h4:=D_ h3
   omega
 · obtain ⟨k,hk,rfl⟩:=uO.mp hy
   refine vR _ (by simp; omega) (by simp; omega) fun c hc=>?_
   obtain ⟨j,_,rfl⟩:=uO.mp hc
   unfold qG
   split <;> exact zR _
theorem rR (n:Int) {k:Nat} (hk:k≤8):(d5 n).take k=((List.range k).map (bL n)).map one:=by
 unfold d5
 rw [← List.map_take,List.take_range,Nat.min_eq_left hk,GA]
 rfl
theorem Eo (n:Int) {sz p k:Nat} (zv:sz≤8) (hp:p < sz):((d5 n).take sz).set p (one (qD (n / 5+(k:Int))))=((List.range sz).map (qG n p k)).map one:=by
 rw [rR n zv,GA,GA]
 refine Gy fun i=>?_
 rw [Va,gw,gw]
 by_cases hi:i < sz
 · rw [Gv hi]
   by_cases e:p=i
   · subst e
     rw [if_pos rfl,if_pos (by simpa using hp)]
     simp [qG]
   · rw [if_neg e]
     have:¬ i=p:=fun z=>e z.symm
     simp [qG,this]
 · rw [xH (by simp; omega)]
   split
   · split
     · rename_i h1 h2; omega
     · rfl
   · rfl
end Nk
namespace L2
open PySem PySem.Spec PyProof.Rows
section
variable (P:Program) (w:World)
end
section
variable {P:Program} {w:World} {H H':Hp} {h h':Heap} {a:Addr} {o:HO}
end
section
variable {P:Program} {w:World} {H:Hp} {h h':Heap} {x e:Addr} {o':HO}
end
section
variable {fs Wl ex Wm:List Addr} {H H1 H2:Hp} {h h1 h2 h':Heap} {a x e:Addr} {o:HO}
end
section
variable {X:Cx} {pins:List (Addr×Obj)} {σ:List (Option V)} {H H':Hp} {s:Shared} {h':Heap}
end
section
variable {X:Cx}
variable {a b:Expr} {ta tb:TE} {pos:Pos}
variable {tA P7:TT} {rest:List Expr}
end
section
variable {X:Cx} {pins:List (Addr×Obj)} {σ:St} {H:Hp} {s:Shared} {a:Addr} {xs ys:List V}
end
section
variable {X:Cx} {pins:List (Addr×Obj)} {σ:St} {H:Hp} {s:Shared} {E:Value→Shared→Prop}
end
section
variable {X:Cx} {st:Stmt} {rest:List Stmt} {t u:TS} {e:Expr} {te:TE} {pos:Pos}
end
section
variable {X:Cx} {pos:Pos}
end
section
variable {X:Cx} {pos:Pos}
end
section
variable {X:Cx} {tg:Expr}
end
section
variable {X:Cx} {a b c:Expr} {ta tb tc:TE} {pos:Pos}
end
section
variable {X:Cx} {a b c:Expr} {ta tb tc:TE} {pos:Pos}
end
section
variable {prog:Program} {w:World} {A:Around} {E:Value→Shared→Prop} {s:Shared} {K:PySem.W.Frag} {x dx C f:Addr} {mA:Str→Option Value} {name:Str} {v:Value}
end
section
variable {P:Program} {w:World} {H H':Hp} {h h':Heap} {a C dx:Addr} {fs Wl:List (Str×V)}
end
section
variable {X:Cx} {pins:List (Addr×Obj)} {σ:St} {H:Hp} {s:Shared} {a C dx:Addr} {fs:List (Str×V)} {f:Str} {v:V} {A:Around} {E:Value→Shared→Prop}
end
section
variable {X:Cx} {o e value:Expr} {f:Str} {pos pos' l7:Pos} {ta tv:TE}
end
section
variable {X:Cx} {pins:List (Addr×Obj)} {σ:St} {H:Hp} {s:Shared} {A:Around} {E:Value→Shared→Prop} {Q:Value→Shared→Prop} {c:Value} {b:Bool}
end
section
variable {X:Cx} {e:Expr} {es:List Expr} {te:TE} {t:TA} {pos:Pos}
end
section
variable {X:Cx} {pins:List (Addr×Obj)} {σ:St} {H:Hp} {s s':Shared}
end
section
variable {X:Cx} {CX:AN} {k:Nat} {f C:Addr} {fd:FuncData} {ps:List Str} {sp:Sp} {xB:List V} {ds:List Value} {E:XK} {x m:Str} {p pos apos:Pos} {e o:Expr} {es:List Expr} {ta:TE} {t:TA}
end
section
variable {X:Cx} {CX:AN} {k:Nat} {f C:Addr} {fd:FuncData} {ps ks:List Str} {sp:Sp} {E:XK} {x m:Str} {p pos apos WU:Pos} {e o:Expr} {es:List Expr} {kws:List Keyword} {te ta:TE} {t tk:TA} {nm:Option Str}
variable {g:List Value→List Value→List Value} {gV:List V→List V→List V}
end
section
variable {X:Cx} {x:Str} {p pos:Pos} {e:Expr} {es:List Expr} {t:TA} {id T:String} {r:List V→Hp→VK→Prop}
end
section
variable {κ:Type} [DecidableEq κ]
noncomputable def jv (bg:List (κ×V)) (k:κ):Option V:=(bg.find? fun kv=>decide (kv.1=k)).map (·.2)
noncomputable def putK (bg:List (κ×V)) (k:κ) (v:V):List (κ×V) :=
 if (bg.any fun kv=>decide (kv.1=k))=true then bg.map (fun kv=>if kv.1=k then (kv.1,v) else kv) else bg ++ [(k,v)]
theorem k6 {p:κ×V} {r:List (κ×V)} {k:κ} (e:p.1=k):jv (p :: r) k=some p.2:=by simp [jv,OY,e]
theorem k7 {p:κ×V} {r:List (κ×V)} {k:κ} (e:¬ p.1=k):jv (p :: r) k=jv r k:=by simp [jv,OY,e]
theorem vS (k:κ):∀ bg:List (κ×V),(bg.any fun kv=>decide (kv.1=k))=(jv bg k).isSome
 | []=>rfl
 | p :: r=>by
   rw [O3]
   by_cases e:p.1=k
   · simp only [k6 e,decide_eq_true e,Ln,Option.isSome_some]
   · rw [k7 e,decide_eq_false e,PY]; exact vS k r
theorem vT (bg:List (κ×V)) (k:κ) (v:V):(putK bg k v).length≤bg.length+1:=by
 unfold putK
 split
 · rw [b_]; omega
 · rw [qd,Ax,PX]; omega
theorem Ep {bg:List (κ×V)} {k:κ} (v:V) (h:jv bg k=none):putK bg k v=bg ++ [(k,v)]:=by
 unfold putK
 rw [vS,h]
 exact if_neg (by decide)
theorem lV.getD {o:Option V} {u:Option Value} {d:V} {d':Value} (r:lV o u) (rd:RelV d d'):RelV (o.getD d) (u.getD d'):=by
 cases o with
 | none=>cases u with
   | none=>exact rd
   | some _=>exact (show False from r).elim
 | some _=>cases u with
   | none=>exact (show False from r).elim
   | some _=>exact r
theorem KV.val {bg:List (κ×V)} {vs:List (κ×Value)} (r:KV bg vs) (k:κ):lV (jv bg k) (valueAt vs k):=by
 unfold KV at r
 induction r with
 | nil=>exact True.intro
 | @cons p q ps qs h t ih =>
   obtain ⟨h1,h2⟩:=h
   by_cases e:p.1=k
   · have e':q.1=k:=h1.symm.trans e
     have b:valueAt (q :: qs) k=some q.2:=by simp [valueAt,OY,e']
     rw [k6 e,b]; exact h2
   · have e':¬ q.1=k:=fun z=>e (h1.trans z)
     have b:valueAt (q :: qs) k=valueAt qs k:=by simp [valueAt,OY,e']
     rw [k7 e,b]; exact ih
theorem KV.any {bg:List (κ×V)} {vs:List (κ×Value)} (r:KV bg vs) (k:κ):(bg.any fun kv=>decide (kv.1=k))=vs.any fun kv=>decide (kv.1=k):=by
 unfold KV at r
 induction r with
 | nil=>rfl
 | cons h t ih=>rw [O3,O3,ih,h.1]
theorem KV.X7 {bg:List (κ×V)} {vs:List (κ×Value)} (r:KV bg vs) (k:κ) {y:V} {u:Value} (ry:RelV y u) :
  KV (bg.map fun kv=>if kv.1=k then (kv.1,y) else kv) (vs.map fun kv=>if kv.1=k then (kv.1,u) else kv):=by
 unfold KV at r ⊢
 induction r with
 | nil=>exact .nil
 | @cons p q ps qs h t ih =>
   rw [g9,g9]
   refine .cons ?_ ih
   obtain ⟨h1,h2⟩:=h
   by_cases e:p.1=k
   · rw [if_pos e,if_pos (h1.symm.trans e)]; exact ⟨h1,ry⟩
   · rw [if_neg e,if_neg (fun z=>e (h1.trans z))]; exact ⟨h1,h2⟩
theorem KV.put {bg:List (κ×V)} {vs:List (κ×Value)} (r:KV bg vs) (k:κ) {y:V} {u:Value} (ry:RelV y u):KV (putK bg k y) (stored vs k u):=by
 unfold putK stored
 rw [r.any k]
 by_cases e:(vs.any fun kv=>decide (kv.1=k))=true
 · rw [if_pos e,if_pos e]; exact r.X7 k ry
 · rw [if_neg e,if_neg e]; exact Paired.snoc r ⟨rfl,ry⟩
theorem KV.length {bg:List (κ×V)} {vs:List (κ×Value)} (r:KV bg vs):bg.length=vs.length:=O0 r
end
theorem vU {P:Program} {w:World} {k:Key} {u:Value} (r:RelV (kV k) u):(bz P w).is k u=true:=by
 cases k with
 | inl i=>obtain ⟨t,e⟩:=(show ∃ t,u=Value.int i t from r); subst e; exact uP P w i t
 | inr x=>obtain ⟨t,e⟩:=(show ∃ t,u=Value.str x t from r); subst e; exact uQ P w x t
theorem rS {P:Program} {w:World}:∀ {ks:List Key} {us:List Value},Vals (ks.map kV) us→ItemsAre (bz P w) ks us
 | [],_,r=>by rw [Cs] at r; cases r; exact .nil
 | k :: ks,_,r=>by
   rw [g9] at r
   cases r with
   | cons h t=>exact .cons (vU h) (rS t)
noncomputable abbrev KT (H:Hp):List (List Key×V)→List (List Key×Addr×Value)→Prop:=Paired fun p q=>p.1=q.1∧H q.2.1=some (.tup (p.1.map kV))∧RelV p.2 q.2.2
theorem KT.val {H:Hp} {bg:List (List Key×V)} {xs:List (List Key×Addr×Value)} (r:KT H bg xs) (k:List Key):lV (jv bg k) ((atKey xs k).map (·.2)):=by
 induction r with
 | nil=>exact True.intro
 | @cons p q ps qs h t ih =>
   obtain ⟨h1,_,h2⟩:=h
   by_cases e:p.1=k
   · have e':q.1=k:=h1.symm.trans e
     have b:atKey (q :: qs) k=some q.2:=by simp [atKey,OY,e']
     rw [k6 e,b]; exact h2
   · have e':¬ q.1=k:=fun z=>e (h1.trans z)
     have b:atKey (q :: qs) k=atKey qs k:=by simp [atKey,OY,e']
     rw [k7 e,b]; exact ih
section
variable {P:Program} {w:World} {H:Hp} {h:Heap} {a:Addr}
theorem KJ {u:HO} (ok:kE P w H h) (e:Rd H a u):bX P w H h a u:=e.ok ok
theorem rT {bg:List (Key×V)} (ok:kE P w H h) (e:Rd H a (.dK bg)):bg.length≤sizeLine∧(a == sysModules)=false∧∃ vs,KV bg vs∧h.DictOf (bz P w) a vs :=
 show bX P w H h a (.dK bg) from KJ ok e
theorem Er {bg:List (Key×V)} (ok:kE P w H h) (e:H a=some (.dK bg)):bg.length≤sizeLine∧(a == sysModules)=false∧∃ vs,KV bg vs∧h.DictOf (bz P w) a vs:=rT ok (.inl e)
theorem yw {ks:List Key} (ok:kE P w H h) (e:H a=some (.tup (ks.map kV))):(tupleKind (bz P w)).is h ks a:=by
 obtain ⟨_,aP,r,o,h1,h2,n,h3⟩:=(show bX P w H h a (.tup (ks.map kV)) from ok a _ e)
 exact ⟨o,aP.toArray,n,h1,h2,h3,by simpa using rS r⟩
theorem zY {bg:List (List Key×V)} (ok:kE P w H h) (e:Rd H a (.dT bg)):bg.length≤sizeLine∧(a == sysModules)=false ∧
  ∃ xs,KT H bg xs∧h.DictOfH (tupleKind (bz P w)) a xs:=by
 obtain ⟨z,y,xs,r,o,es,ep,h1,h2,h3,h4,h5⟩:=(show bX P w H h a (.dT bg) from KJ ok e)
 refine ⟨z,y,xs,r,o,es,ep,h1,h2,h3,h4,fun x hx=>?_,h5⟩
 have all:∀ {l:List (List Key×V)} {m:List (List Key×Addr×Value)},KT H l m→∀ x∈m,(tupleKind (bz P w)).is h x.1 x.2.1:=by
  intro l m q
  induction q with
  | nil=>intro x hx; exact nomatch hx
  | @cons p q ps qs hq t ih =>
    intro x hx
    rcases cZ.mp hx with e | hx
    · subst e
      exact yw ok (by rw [← hq.1]; exact hq.2.1)
    · exact ih x hx
 exact all r x hx
end
noncomputable def tT (H:Hp) (a:Addr) (y:V) (r:Option V):Prop :=
 (∃ bg k,Rd H a (.dK bg)∧y=kV k∧r=jv bg k)∨∃ bg k b,Rd H a (.dT bg)∧y = .ref b∧H b=some (.tup (k.map kV))∧r=jv bg k
theorem tT.k {H:Hp} {a:Addr} {bg:List (Key×V)} {k:Key} (e:H a=some (.dK bg)):tT H a (kV k) (jv bg k):=.inl ⟨bg,k,.inl e,rfl,rfl⟩
section
variable {X:Cx} {pins:List (Addr×Obj)} {σ:St} {H:Hp} {s:Shared} {a:Addr} {y v:V} {u r:Value} {o:Option V} {A:Around} {E:Value→Shared→Prop}
theorem Inv.big (I:Inv X pins σ H s):sysModules < s.heap.objs.size:=by
 have h:mainGlobals < s.heap.objs.size:=(I.mod.glob.keeps I.bk).lt
 exact Nat.lt_trans (by decide) h
theorem Bp {Q:Value→Shared→Prop} (hu:A.units+1 < cLine) (I:Inv X pins σ H s) (g:tT H a y (some v)) (ry:RelV y u) (h:∀ w' s',Inv X pins σ H s'→RelV v w'→Q w' s') :
  wpAny (model X.prog X.w) A (getItem (.ref a) u) Q E s:=by
 rcases g with ⟨bg,k,e,ey,l⟩ | ⟨bg,k,b,e,ey,eb,l⟩
 · subst ey
   obtain ⟨z,hd,vs,rel,dd⟩:=rT I.bV e
   obtain ⟨w',hw,rw'⟩:=lV.some_of (v:=v) (o:=valueAt vs k) (by rw [l]; exact rel.val k)
   exact wpAny_getItem_of (vU ry) dd.mapOf hw (h w' _ (I.tok _) rw')
 · subst ey
   cases (show u=Value.ref b from ry)
   obtain ⟨z,hd,xs,rel,dd⟩:=zY I.bV e
   obtain ⟨w',hw,rw'⟩:=lV.some_of (v:=v) (o:=(atKey xs k).map (·.2)) (by rw [l]; exact rel.val k)
   obtain ⟨p,hp,M8⟩:=U2.mp hw
   refine wpAny_getItem_heap (tupleKind_room_in1 hu) (yw I.bV eb) dd hp ?_
   rw [M8]
   exact h w' _ (I.tok _) rw'
theorem IS {h':Heap} {t':Nat} {ob:HO} (I:Inv X pins σ H s) (mu:PZ (H a)) (hs:Heap.SameBut a s.heap h') (he:∃ q,h'.get? a=some q) (new:bX X.prog X.w (upd H a ob) h' a ob) :
  Inv X pins σ (upd H a ob) { s with heap:=h',toks:=t' } :=
 I.write (x:=a) (e:=a) mu (.inl rfl) (fun b q hb z=>(hs.2 b hb).trans z) he new
theorem Np {P:Program} {w:World} {H':Hp} {h':Heap} {bg:List (Key×V)} {vs:List (Key×Value)} (z:bg.length≤sizeLine) (hd:(a == sysModules)=false) (rel:KV bg vs) (dd:h'.DictOf (bz P w) a vs) :
 bX P w H' h' a (.dK bg):=⟨z,hd,vs,rel,dd⟩
end
section
variable {X:Cx} {pins:List (Addr×Obj)} {σ:St} {H:Hp} {s:Shared} {a:Addr} {bg:List (Key×V)} {k:Key} {u:Value} {A:Around} {E:Value→Shared→Prop}
theorem RF {Q:Value→Shared→Prop} (I:Inv X pins σ H s) (e:Rd H a (.dK bg)) (h:∀ t s',Inv X pins σ H s'→Q (.int bg.length t) s'):wpAny (model X.prog X.w) A (call (.builtin "len") [.ref a]) Q E s:=by
 obtain ⟨z,hd,vs,rel,dd⟩:=rT I.bV e
 refine call_len_dict hd dd (by rw [← rel.length]; rw [sizeLine_eq] at z; omega) ?_
 rw [← rel.length]
 exact h _ _ (I.tok _)
end
noncomputable def Nq (i:Expr):Prop:=∀ ov iv,subscripted i false ov iv=operate [ov,iv] (getItem ov iv)
theorem IT {prog:Program} {w:World} {A:Around} {E:Value→Shared→Prop} {s:Shared} {env:Env} {value slice:Expr} {pos:Pos} {T id:String} {Q:Value→Shared→Prop}
  (hl:typeLookup (.type T) "__getitem__" = pure (some (.builtin id))) (hs:Nq slice)
  (h:wpAny (model prog w) A (eval value env) (fun o s₁=>wpAny (model prog w) A (eval slice env) (fun i s₂=>s₂.TypeIs o T∧wpAny (model prog w) A (getItem o i) Q E s₂) E s₁) E s) :
  wpAny (model prog w) A (eval (.Subscript value slice pos) env) Q E s:=by
 refine Subscript_ (wpAny_mono h (fun o s₁ h₁=>wpAny_mono h₁ (fun i s₂ h₂=>?_) fun _ _ x=>x) fun _ _ x=>x)
 obtain ⟨hT,h₂⟩:=h₂
 unfold subscriptTail
 refine wpAny_bind ?_
 rw [getitemInPython_of_ne hT.not_modules]
 refine wpAny_bind (wpAny_specialOf hT hl ?_)
 have fin:wpAny (model prog w) A (subscripted slice false o i) (fun r s₃=>wpAny (model prog w) A (letTemporaryGo value o r >>= fun _=>pure r) Q E s₃) E s₂:=by
  rw [hs o i]
  exact wpAny_operating (wpAny_mono h₂ (fun r s₃ h₃=>wpAny_bind (wpAny_letTemporaryGo (wpAny_pure h₃))) fun _ _ x=>x)
 first
  | exact wpAny_pure (wpAny_bind fin)
  | exact wpAny_bind (wpAny_pure (wpAny_bind fin))
  | exact wpAny_bind fin
theorem vV {X:Cx} {pins:List (Addr×Obj)} {σ:St} {H:Hp} {s:Shared} {a:Addr} {y:V} {o:Option V} (I:Inv X pins σ H s) (g:tT H a y o):s.TypeIs (.ref a) "dict":=by
 rcases g with ⟨bg,k,e,_,_⟩ | ⟨bg,k,b,e,_,_,_⟩
 · obtain ⟨_,_,vs,_,dd⟩:=rT I.bV e
   exact dd.typeIs
 · obtain ⟨_,_,xs,_,dd⟩:=zY I.bV e
   exact dd.typeIs
noncomputable def RG (td ty:TE):TE:=fun σ H Q=>td σ H fun x H1=>ty σ H1 fun y H2=>∃ a v,x = .ref a∧tT H2 a y (some v)∧Q v H2
section
variable {X:Cx} {o i e value:Expr} {pos pos' l7:Pos} {td ty tv:TE}
theorem IU (hu:X.A.units+1 < cLine) (ho:PE X o td) (hi:PE X i ty) (hs:Nq i):PE X (.Subscript o i pos) (RG td ty):=by
 intro pins s σ H Q I h
 refine IT PySem.F.slot_dict_getitem.lookup hs (cb (ho pins s σ H _ I h) fun u s1 ⟨x,H1,I1,rx,q1⟩=>cb (hi pins s1 σ H1 _ I1 q1) fun iv s2 ⟨y,H2,I2,ry,a,v,ex,g,q2⟩=>?_)
 subst ex
 obtain rfl:u=Value.ref a:=rx
 exact ⟨vV I2 g,Bp hu I2 g ry fun w' s3 I3 rw'=>⟨v,H2,I3,rw',q2⟩⟩
end
theorem Es {P:Program} {w:World} {H:Hp} (h:Heap) (hb:sysModules < h.objs.size):bX P w H (h.push { cls:=.type "dict",data:=.dict #[] }) h.objs.size (.dK []) :=
 ⟨qe _,beq_eq_false_iff_ne.mpr (Ne.symm (je hb)),[],.nil,Heap.DictOf.new h⟩
noncomputable def Nr:TE:=fun _ H Q=>∀ p,H p=none→Q (.ref p) (upd H p (.dK []))
section
variable {X:Cx} {pos:Pos}
theorem Et:PE X (.Dict [] [] pos) Nr:=fun pins s σ H Q I h =>
 wpAny_Dict_empty ⟨.ref s.heap.objs.size,_,I.laid (a:=s.heap.objs.size) (o:=.dK []) (t':=s.toks) (fun _ _ q=>fF _ q) (cA _) (Es s.heap I.big),rfl,h _ (I.bV.fresh (cA _))⟩
end
noncomputable abbrev VV:List (V×V)→List (Value×Value)→Prop:=Paired fun p q=>RelV p.1 q.1∧RelV p.2 q.2
structure M1 (X:Cx) (o:Expr) (m:Str) (apos:Pos) (e:Expr) (bj:Pos):Prop where
 base:attributeBase o m X.env (eval o X.env)=eval o X.env
 X8:((backTo bj (starEach [e] X.env)).all (fun x=>!x.1) && (backToKw bj (keywordEach [] X.env)).all (fun x=>x.1.isSome)
  && decide (([e]:List Expr).length+([]:List Keyword).length+(if ([]:List Keyword).isEmpty then 0 else 1) < 30))=true
 line:(apos.endLine == bj.line)=true
 trees:backTo bj (starEach [e] X.env)=[(false,eval e X.env)]
structure M2 (X:Cx) (o:Expr) (m:Str) (apos:Pos) (e f:Expr) (bj:Pos):Prop where
 base:attributeBase o m X.env (eval o X.env)=eval o X.env
 X8:((backTo bj (starEach [e,f] X.env)).all (fun x=>!x.1) && (backToKw bj (keywordEach [] X.env)).all (fun x=>x.1.isSome)
  && decide (([e,f]:List Expr).length+([]:List Keyword).length+(if ([]:List Keyword).isEmpty then 0 else 1) < 30))=true
 line:(apos.endLine == bj.line)=true
 trees:backTo bj (starEach [e,f] X.env)=[(false,eval e X.env),(false,eval f X.env)]
noncomputable def IsD (H:Hp) (a:Addr):Prop:=(∃ bg,Rd H a (.dK bg))∨∃ bg,Rd H a (.dT bg)
theorem Nt {X:Cx} {pins:List (Addr×Obj)} {σ:St} {H:Hp} {s:Shared} {a:Addr} (I:Inv X pins σ H s) (d:IsD H a) :
  s.TypeIs (.ref a) "dict"∧(∀ b,Value.ref a = .ref b→∃ ob,s.heap.get? b=some ob∧ob.dict=none)∧(a == sysModules)=false:=by
 rcases d with ⟨bg,e⟩ | ⟨bg,e⟩
 · obtain ⟨_,hd,vs,_,dd⟩:=rT I.bV e
   refine ⟨dd.typeIs,fun b q=>?_,hd⟩
   cases q
   obtain ⟨ob,_,_,h1,h2,_⟩:=dd
   exact ⟨ob,h1,h2.2.1⟩
 · obtain ⟨_,hd,xs,_,dd⟩:=zY I.bV e
   refine ⟨dd.typeIs,fun b q=>?_,hd⟩
   cases q
   obtain ⟨ob,_,_,h1,h2,_⟩:=dd
   exact ⟨ob,h1,h2.2.1⟩
section
variable {X:Cx} {pins:List (Addr×Obj)} {σ:St} {H:Hp} {s:Shared} {a:Addr} {y d:V} {u r:Value} {o:Option V} {A:Around} {E:Value→Shared→Prop}
theorem Nu {Q:Value→Shared→Prop} (hu:A.units+1 < cLine) (I:Inv X pins σ H s) (g:tT H a y o) (ry:RelV y u) (h:∀ w' s',Inv X pins σ H s'→RelV (o.getD .bb) w'→Q w' s') :
  wpAny (model X.prog X.w) A (call (.builtin "dict.get") [.ref a,u]) Q E s:=by
 rcases g with ⟨bg,k,e,ey,l⟩ | ⟨bg,k,b,e,ey,eb,l⟩
 · subst ey
   obtain ⟨z,hd,vs,rel,dd⟩:=rT I.bV e
   refine call_meetsIn PN dd.typeIs Wf (Wb _ _) (meets_dict_get (bz X.prog X.w) a (vU ry) hd) ⟨_,dd.mapOf,h _ _ (I.tok _) ?_⟩
   rw [l]
   exact (rel.val k).getD rfl
 · subst ey
   cases (show u=Value.ref b from ry)
   obtain ⟨z,hd,xs,rel,dd⟩:=zY I.bV e
   refine call_meetsIn PN dd.typeIs Wf (Wb _ _) (meetsH_dict_get (tupleKind (bz X.prog X.w)) a b hd) ⟨tupleKind_room_in1 hu,k,xs,yw I.bV eb,dd,h _ _ (I.tok _) ?_⟩
   rw [l]
   exact (rel.val k).getD rfl
end
noncomputable def Nv (td ty:TE):TE:=fun σ H Q=>td σ H fun x H1=>∃ a,x = .ref a∧IsD H1 a∧ty σ H1 fun y H2=>∃ o,tT H2 a y o∧Q (o.getD .bb) H2
section
variable {X:Cx} {o e f:Expr} {apos bj:Pos} {td ty tx:TE}
theorem Eu (hu:X.A.units+1 < cLine) (ho:PE X o td) (he:PE X e ty) (m:M1 X o "get" apos e bj):PE X (.Call (.Attribute o "get" apos) [e] [] bj) (Nv td ty):=by
 intro pins s σ H Q I h
 refine wpAny_Call_method m.base m.X8 m.line U0 PN PySem.F.type_dict_get (cb (ho pins s σ H _ I h) fun u s1 ⟨x,H1,I1,rx,a,ex,d,q1⟩=>?_)
 subst ex
 obtain rfl:u=Value.ref a:=rx
 obtain ⟨t1,t2,_⟩:=Nt I1 d
 refine ⟨t1,t2,?_⟩
 rw [m.trees]
 refine U1 rfl (Calls.evalArgs_plain (Calls.spliced_cons (cb (he pins s1 σ H1 _ I1 q1) fun iv s2 ⟨y,H2,I2,ry,ov,g,q2⟩=>Calls.spliced_nil ?_)))
 exact Nu hu I2 g ry fun w' s3 I3 rw'=>⟨_,H2,I3,rw',q2⟩
end
section
variable {X:Cx} {pins:List (Addr×Obj)} {σ:St} {H:Hp} {s:Shared} {a:Addr} {bg:List (Key×V)} {A:Around} {E:Value→Shared→Prop}
end
section
variable {X:Cx} {pins:List (Addr×Obj)} {σ:St} {H:Hp} {s:Shared} {a:Addr} {y:V} {u:Value} {A:Around} {E:Value→Shared→Prop}
end
end L2
namespace Vi
open PySem PySem.W PySem.Calls PyProof.Rows
section
variable {prog:Program} {w:World} {A:Around} {E:Value→Shared→Prop} {s:Shared} {K:Frag}
end
end Vi
namespace L2
open PySem PySem.Spec PyProof.Rows
section
variable {P:Program} {w:World} {K:PySem.W.Frag} {mg:Str→Option Value} {base:Heap}
end
section
variable {X:Cx}
theorem Bq:c8 X (.builtin "len") (fun xs H Q=>∃ a bg,xs=[V.ref a]∧H a=some (.dK bg)∧Q (.int bg.length) H):=by
 intro pins s σ H xs us Q I r h
 obtain ⟨a,bg,rfl,ha,q⟩:=h
 obtain ⟨u,rfl,ru⟩:=vals1 r
 cases ru
 exact RF I (.inl ha) fun t s' I'=>⟨.int bg.length,H,I',⟨t,rfl⟩,q⟩
end
section
variable {κ:Type} [DecidableEq κ]
end
end L2
namespace VT
open PySem PySem.Spec PyProof.Rows L2
noncomputable def Ew:T→Option Key
 | .int i=>some (.inl i)
 | .str x=>some (.inr x)
 | _=>none
theorem tU {K:PySem.W.Frag} {H:Hp} {A:List Addr} {t:T} {v:V} {k:Key} (h:iy K H A t v) (e:Ew t=some k):v=kV k:=by
 cases t with
 | int i=>cases e; exact h.int
 | str x=>cases e; exact h.str
 | _=>cases e
noncomputable def gg {α:Type}:List Key→List α→Key→Option α
 | k :: ks,t :: ts,x=>if k=x then some t else gg ks ts x
 | _,_,_=>none
theorem gh:∀ (ks:List Key) (vs:List V) (x:Key),jv (ks.zip vs) x=gg ks vs x
 | [],vs,x=>rfl
 | k :: ks,[],x=>rfl
 | k :: ks,v :: vs,x=>by
   simp only [gg,U9]
   by_cases e:k=x
   · rw [if_pos e,k6 (p:=(k,v)) e]
   · rw [if_neg e,k7 (p:=(k,v)) e]; exact gh ks vs x
theorem vW {α:Type} (ts:List α) (x:Key):gg [] ts x=none:=by cases ts <;> rfl
theorem iK {K:PySem.W.Frag} {H:Hp} {A:List Addr}:∀ {ks:List Key} {ts:List T} {vs:List V} {x:Key},aA K H A ts vs→(∀ t,gg ks ts x=some t→∃ v,gg ks vs x=some v∧At K H A t v)∧(gg ks ts x=none→gg ks vs x=none)
 | [],ts,vs,x,h=>by
   rw [vW,vW]
   refine ⟨fun t e=>?_,fun _=>rfl⟩
   cases e
 | k :: ks,[],vs,x,h=>by
   simp only [aA] at h
   subst h
   exact ⟨fun t e=>(by cases e),fun _=>rfl⟩
 | k :: ks,t :: ts,vs,x,h=>by
   simp only [aA] at h
   obtain ⟨v,r,rfl,h1,h2⟩:=h
   simp only [gg]
   by_cases e:k=x
   · rw [if_pos e,if_pos e]
     exact ⟨fun t e=>by cases e; exact ⟨v,rfl,h1⟩,fun q=>by cases q⟩
   · rw [if_neg e,if_neg e]
     exact iK h2
section
variable {X:Cx} {Z:Zc} {e a b:Expr} {fa fb fc:FE} {pos:Pos}
noncomputable def RH:FP:=fun _ Q=>Q (.fr (.dk [] []))
theorem zZ:VP X Z (.Dict [] [] pos) RH:=.mk fun tm=>PE.weak Et fun σ H Q ⟨ρ,O,q,I,hf,k⟩ p hp =>
 k _ hf _ _ (aU hp) (I.newD (ks:=[]) (ts:=[]) (vs:=[]) hp rfl aA.nil)
noncomputable def RI (fa fb:FE):FP:=fun ρ Q=>fa ρ fun x=>fb ρ fun y=>match x,Ew y with
 | .dk ks ts,some k=>∃ t,gg ks ts k=some t∧Q (.vw t)
 | _,_=>False
theorem Ex (hu:X.A.units+1 < cLine) (ha:VR X Z a fa) (hb:VR X Z b fb) (hs:Nq b:=by intro _ _; rfl):VP X Z (.Subscript a b pos) (RI fa fb):=.mk fun tm=>PE.weak (IU hu (ha tm) (hb tm) hs) fun σ H Q ⟨ρ,O,q,I,hf,k⟩ =>
 ⟨ρ,O,_,I,hf,fun x hx v H1 s1 a1=>⟨ρ,O,_,I.same s1,hx,fun y hy w H2 s2 a2=>by
   split at hy
   · rename_i ks ts kk e
     obtain ⟨t,e1,hq⟩:=hy
     obtain ⟨l,vs,rfl,hl,hd,hv⟩:=(a1.same s2).dk
     obtain ⟨u,e2,e3⟩:=(iK hv).1 t e1
     rw [tU a2 e]
     exact ⟨l,u,rfl,by rw [← e2,← gh]; exact tT.k hd,k _ hq _ H2 (s1.trans s2) ⟨(I.same s1).same s2,e3⟩⟩
   · exact hy.elim⟩⟩
noncomputable def X9 (fa fb:FE):FP:=fun ρ Q=>fa ρ fun x=>match x with
 | .dk ks ts=>fb ρ fun y=>match Ew y with
   | some k=>Q (.vw ((gg ks ts k).getD .bb))
   | none=>False
 | _=>False
theorem z0 {K:PySem.W.Frag} {H:Hp} {A:List Addr} {ks:List Key} {ts:List T} {vs:List V} {k:Key} {z:T} {w:V} (h:aA K H A ts vs) (hz:At K H A z w):At K H A ((gg ks ts k).getD z) ((gg ks vs k).getD w):=by
 cases e:gg ks ts k with
 | none=>rw [(iK h).2 e]; exact hz
 | some t=>obtain ⟨v,e1,e2⟩:=(iK h).1 t e; rw [e1]; exact e2
theorem Nw {apos bj:Pos} (hu:X.A.units+1 < cLine) (ha:VR X Z a fa) (hb:VR X Z b fb) (m:M1 X a "get" apos b bj):VP X Z (.Call (.Attribute a "get" apos) [b] [] bj) (X9 fa fb):=.mk fun tm=>PE.weak (Eu hu (ha tm) (hb tm) m) fun σ H Q ⟨ρ,O,q,I,hf,k⟩ =>
 ⟨ρ,O,_,I,hf,fun x hx v H1 s1 a1=>by
   split at hx
   · rename_i ks ts
     obtain ⟨l,vs,rfl,hl,hd,hv⟩:=a1.dk
     refine ⟨l,rfl,.inl ⟨_,.inl hd⟩,ρ,O,_,I.same s1,hx,fun y hy w H2 s2 a2=>?_⟩
     split at hy
     · rename_i kk e
       rw [tU a2 e]
       refine ⟨_,tT.k (s2 _ _ hd),?_⟩
       rw [gh]
       exact k _ hy _ H2 (s1.trans s2) ⟨(I.same s1).same s2,z0 (hv.same s2) md⟩
     · exact hy.elim
   · exact hx.elim⟩
end
section
variable {X:Cx} {Z:Zc} {a b:Expr} {fa fb:FE} {pos:Pos}
noncomputable def KL (ts:List T) (q:Rt→Prop):Prop:=match ts with
 | [.dk ks vs]=>q (.vw (.int (vs.length:Int)))
 | _=>False
theorem yx {K:PySem.W.Frag}:m7 K (fun xs H Q=>∃ a bg,xs=[V.ref a]∧H a=some (.dK bg)∧Q (.int bg.length) H) KL:=by
 intro Z tm O ρ σ H ts vs q Q I h hp k
 unfold KL at hp
 split at hp
 · obtain ⟨v,rfl,a⟩:=cx h
   obtain ⟨l,ws,rfl,hl,hd,hv⟩:=a.dk
   refine ⟨l,_,rfl,hd,?_⟩
   rw [List.length_zip,hl,Nat.min_self,hv.length]
   exact k _ hp _ H (aX.refl H) ⟨I,bG⟩
 · exact hp.elim
end
end VT
namespace RV
open PySem PySem.Spec PyProof.Rows
section
variable {prog:Program} {w:World} {A:Around} {E:Value→Shared→Prop} {s:Shared}
end
section
variable {prog:Program} {w:World} {A:Around} {s:Shared} {R:Result→Shared→Prop}
variable {I:Addr} {fp wr:List Addr} {G:Array GenState→Array GenState→Prop} {n:Nat} {P:Nat→Value→Prop} {St:Nat→Shared→Prop}
noncomputable def Ends (prog:Program) (w:World) (A:Around) (I:Addr) (wr:List Addr) (G:Array GenState→Array GenState→Prop) (n:Nat) (St:Nat→Shared→Prop):Prop :=
 ∀ (s:Shared) (Q:Option Value→Shared→Prop) (E:Value→Shared→Prop),St n s→(∀ s',Moved wr G s s'→(∃ o,s'.heap.get? I=some o)→Q none s')→wpAny (model prog w) A (pyNext (.ref I)) Q E s
end
section
variable {prog:Program} {w:World} {A:Around} {E:Value→Shared→Prop} {s:Shared}
variable {I:Addr} {fp wr:List Addr} {G:Array GenState→Array GenState→Prop} {n:Nat} {P:Nat→Value→Prop} {St:Nat→Shared→Prop}
end
section
variable {prog:Program} {w:World} {A:Around} {E:Value→Shared→Prop} {s:Shared}
end
end RV
namespace VT
open PySem PySem.Spec PyProof.Rows L2
section
variable {X:Cx}
end
section
variable {X:Cx} {Z:Zc} {a:Expr} {fa:FE} {p1 p2 Br qH:Pos}
end
theorem Ey {n:Nat} (h:n+101 < cLine):n+1 < cLine:=by omega
section
variable {X:Cx} {Z:Zc} {ek ev:Expr} {fk fv:FE} {pos:Pos}
end
noncomputable def KN (w:World) (K:PySem.W.Frag) (e:DictEntry) (p:Str×T):Prop:=e.hash=PyData.keyHash w.params p.1∧(∃ t,e.key = .str p.1 t)∧∃ v,RelV v e.val∧∀ H A,At K H A p.2 v
noncomputable def z6 (w:World) (K:PySem.W.Frag) (a:Addr) (l:List (Str×T)):Prop:=∃ es ep,K.lookup a=some ⟨.type "dict",none,.dict es ep,#[]⟩∧(a == sysModules)=false∧Paired (KN w K) es.toList l∧(l.map (·.1)).Nodup
theorem ents {P:Program} {w:World} {K:PySem.W.Frag}:∀ {es:List DictEntry} {l:List (Str×T)},Paired (KN w K) es l →
  ∃ (vs:List V) (us:List (Key×Value)),(∀ H A,aA K H A (l.map (·.2)) vs)∧KV ((l.map fun p=>(Sum.inr p.1:Key)).zip vs) us∧PySem.Pairs (bz P w) es us∧us.map (·.1)=l.map (fun p=>(Sum.inr p.1:Key))∧∀ e∈es,∃ k,(bz P w).is k e.key=true∧e.hash=(bz P w).hash k
 | _,_,.nil=>⟨[],[],fun _ _=>aA.nil,.nil,.nil,rfl,fun _ h=>nomatch h⟩
 | _,_,.cons (a:=e) (b:=p) r t=>by
   obtain ⟨vs,us,h1,h2,h3,h4,h5⟩:=ents (P:=P) t
   obtain ⟨r1,⟨tk,r2⟩,v,r3,r4⟩:=r
   have hk:(bz P w).is (Sum.inr p.1) e.key=true:=by
    rw [r2]
    show Value.isStrOf p.1 (.str p.1 tk)=true
    simp [Value.isStrOf]
   refine ⟨v :: vs,(Sum.inr p.1,e.val) :: us,fun H A=>aA.cons (r4 H A) (h1 H A),.cons ⟨rfl,r3⟩ h2,.cons hk rfl h3,by rw [g9,g9,h4],fun e' he=>?_⟩
   rcases cZ.mp he with q | q
   · subst q
     exact ⟨Sum.inr p.1,hk,r1⟩
   · exact h5 e' q
theorem z6.of {X:Cx} {pins:List (Addr×Obj)} {σ:St} {H:Hp} {s:Shared} {a:Addr} {l:List (Str×T)} (I:Inv X pins σ H s) (d:z6 X.w X.K a l) :
  ∃ (vs:List V) (us:List (Key×Value)),(∀ H A,aA X.K H A (l.map (·.2)) vs)∧KV ((l.map fun p=>(Sum.inr p.1:Key)).zip vs) us∧s.heap.DictOf (bz X.prog X.w) a us∧(a == sysModules)=false:=by
 obtain ⟨es,ep,lk,hs,hp,nd⟩:=d
 obtain ⟨vs,us,h1,h2,h3,h4,h5⟩:=ents (P:=X.prog) hp
 refine ⟨vs,us,h1,h2,⟨_,es,ep,I.rj a _ lk,⟨rfl,rfl,rfl⟩,rfl,fun e he=>h5 e (by simpa using he),h3,?_⟩,hs⟩
 rw [h4]
 have e:(l.map fun p=>(Sum.inr p.1:Key))=(l.map (·.1)).map Sum.inr:=by rw [GA]; rfl
 rw [e]
 exact List.Pairwise.map _ (fun a b h z=>h (Sum.inr.inj z)) nd
section
variable {X:Cx} {Z:Zc} {e c:Expr} {fe fc:FE} {x:Str} {p apos bj:Pos} {a:Addr} {l:List (Str×T)}
noncomputable def IV (l:List (Str×T)) (k:Str):Option T:=gg (l.map fun p=>(Sum.inr p.1:Key)) (l.map (·.2)) (Sum.inr k)
noncomputable def onStr (t:T) (f:Str→Prop):Prop:=match t with
 | .str k=>f k
 | _=>False
theorem Ez {t:T} {f:Str→Prop} (h:onStr t f):∃ k,t = .str k∧f k:=by
 unfold onStr at h
 split at h
 · exact ⟨_,rfl,h⟩
 · exact h.elim
noncomputable def X_ (l:List (Str×T)) (fe:FE):FP:=fun ρ Q=>fe ρ fun y=>onStr y fun k=>Q (.vw ((IV l k).getD .bb))
theorem EA (hg:Gl X x) (hm:X.mg x=some (.ref a)) (d:z6 X.w X.K a l) (he:VR X Z e fe) (m:M1 X (.Name x p) "get" apos e bj) (hd:(x == ("__debug__" : Str))=false:=by decide) :
  VP X Z (.Call (.Attribute (.Name x p) "get" apos) [e] [] bj) (X_ l fe):=.mk fun tm pins s σ H Q I ⟨ρ,O,q,E,hf,k⟩=>by
 refine wpAny_Call_method m.base m.X8 m.line U0 PN PySem.F.type_dict_get (cb (zp hg hm (v:=.ref a) rfl hd pins s σ H (fun v H'=>v = .ref a∧H'=H) I ⟨rfl,rfl⟩) fun u s1 ⟨x',H1,I1,rx,ex,eH⟩=>?_)
 subst ex eH
 obtain rfl:u=Value.ref a:=rx
 obtain ⟨vs,us,h1,h2,dd,hs⟩:=d.of I1
 refine ⟨dd.typeIs,fun b q=>?_,?_⟩
 · cases q
   obtain ⟨ob,_,_,z1,z2,_⟩:=dd
   exact ⟨ob,z1,z2.2.1⟩
 rw [m.trees]
 refine U1 rfl (Calls.evalArgs_plain (Calls.spliced_cons (cb (he tm pins s1 σ H1 (fun y H2=>∃ t,iy X.K H2 (av Z O) t y∧aX H1 H2∧onStr t fun k=>q (.vw ((IV l k).getD .bb))) I1 ⟨ρ,O,_,E,hf,fun t ht v H' s a1=>⟨t,a1,s,ht⟩⟩) fun iv s2 ⟨y,H2,I2,ry,t,a1,sa,q3⟩=>Calls.spliced_nil ?_)))
 obtain ⟨kk,et,q3⟩:=Ez q3
 subst et
 obtain ⟨kz,VM,GK,MU,RJ,GL⟩:=d.of I2
 have ey:=a1.str
 subst ey
 refine call_meetsIn PN RJ.typeIs Wf (Wb _ _) (meets_dict_get (bz X.prog X.w) a (vU (k:=Sum.inr kk) ry) GL) ⟨_,RJ.mapOf,⟨_,H2,I2.tok _,(MU.val (Sum.inr kk)).getD (d:=.bb) rfl,?_⟩⟩
 rw [gh]
 exact k _ q3 _ H2 sa ⟨E.same sa,z0 (GK H2 (av Z O)) md⟩
end
section
variable {X:Cx}
end
section
variable {K:PySem.W.Frag} {H:Hp} {A:List Addr}
theorem rV:∀ {ys:List Str} {vs:List V},aA K H A (ys.map T.str) vs→vs=ys.map V.str
 | [],vs,h=>by simpa only [Cs,aA] using h
 | y :: ys,vs,h=>by
   simp only [g9,aA] at h
   obtain ⟨v,r,rfl,h1,h2⟩:=h
   simp only [At] at h1
   rw [h1,rV h2]
   rfl
end
section
variable {X:Cx}
theorem Bt (hu:X.A.units+101 < cLine):eY X (compareOp .In) (fun x y H Q=>∃ (p q:Addr) (xs:List V) (ys:List Str),x = .ref p∧y = .ref q∧dZ X.K H p xs∧dZ X.K H q (ys.map V.str)∧Q (.bl false) H):=by
 intro pins s σ H x y v u Q I rx ry h
 obtain ⟨p,q,xs,ys,rfl,rfl,h1,h2,hq⟩:=h
 cases rx
 cases ry
 obtain ⟨aP,r,pl,hz⟩:=I.tuple h1
 obtain ⟨dF,r2,pl2,hz2⟩:=I.tuple h2
 have u7:∀ w∈dF.toArray,SeqAt.EqAt X.A.in1 s w (.ref p) false:=by
  intro w hw
  have hw':w∈dF:=by simpa using hw
  obtain ⟨i,hi⟩:=CH.mp hw'
  have hl:=r2.length
  rw [b_] at hl
  have hiy:i < ys.length:=by have:=(cn.mp hi).1; omega
  obtain ⟨u,cF,ru⟩:=r2.get (show (ys.map V.str)[i]?=some (.str ys[i]) by rw [gw,fD hiy]; rfl)
  rw [hi] at cF
  cases cF
  obtain ⟨t,rfl⟩:=ru
  exact SeqAt.EqAt.str_tuple _ _ pl (by rw [in1_units]; omega)
 refine SeqAt.in_tupleAt (fun _=>false) pl2 u7 ⟨.bl false,H,I,?_,hq⟩
 show Value.bool _=Value.bool false
 congr 1
 exact Array.any_eq_false.mpr (by simp)
noncomputable def Nx (x y:T) (q:Rt→Prop):Prop:=match x,y with
 | .tup _,.tup us=>∃ ys:List Str,us=ys.map .str∧q (.vw (.bl false))
 | _,_=>False
theorem IW {K:PySem.W.Frag}:oF K (fun x y H Q=>∃ (p q:Addr) (xs:List V) (ys:List Str),x = .ref p∧y = .ref q∧dZ K H p xs∧dZ K H q (ys.map V.str)∧Q (.bl false) H) Nx:=by
 intro Z tm O ρ σ H x y v w q Q I h1 h2 h k
 unfold Nx at h
 split at h
 · obtain ⟨ys,rfl,h⟩:=h
   obtain ⟨a,vs,rfl,s1,_⟩:=h1.tup
   obtain ⟨b,ws,rfl,s2,a2⟩:=h2.tup
   have e:ws=ys.map V.str:=rV a2
   rw [e] at s2
   exact ⟨a,b,vs,ys,rfl,rfl,s1,s2,k _ h _ H (aX.refl H) ⟨I,c_⟩⟩
 · exact h.elim
noncomputable def Ny (x y:T) (q:Rt→Prop):Prop:=match x with
 | .tup _=>Nx x y q
 | _=>Rf x y q
noncomputable def RK (K:PySem.W.Frag):R2:=fun x y H Q=>DJ K false x y H Q∨∃ (p q:Addr) (xs:List V) (ys:List Str),x = .ref p∧y = .ref q∧dZ K H p xs∧dZ K H q (ys.map V.str)∧Q (.bl false) H
theorem Nz (hu:X.A.units+101 < cLine):eY X (compareOp .In) (RK X.K):=by
 intro pins s σ H x y v u Q I rx ry h
 rcases h with h | h
 · exact yh pins s σ H x y v u Q I rx ry h
 · exact Bt hu pins s σ H x y v u Q I rx ry h
theorem IX {K:PySem.W.Frag}:oF K (RK K) Ny:=by
 intro Z tm O ρ σ H x y v w q Q I h1 h2 h k
 unfold Ny at h
 split at h
 · exact Or.inr (IW Z tm O ρ σ H _ y v w q Q I h1 h2 h k)
 · exact Or.inl (yi Z tm O ρ σ H x y v w q Q I h1 h2 h k)
end
section
variable {X:Cx} {Z:Zc} {a b e:Expr} {fa fb:FE} {pos:Pos}
theorem NA (hu:X.A.units+101 < cLine) (ha:VR X Z a fa) (hb:VR X Z b fb) (hm:behindInMarks .In b=false:=by rfl):VP X Z (.Compare a [.In] [b] pos) (f2 fa fb Ny):=sO (Nz hu) IX ha hb hm
end
noncomputable abbrev FPs:=En→(List (Key×T)→Prop)→Prop
section
variable {X:Cx} {Z:Zc} {ek ev:Expr} {fk fv:FE} {pos:Pos} {keys:List (Option Expr)} {values:List Expr} {f:FPs}
variable {e:Expr} {apos bj:Pos}
end
section
variable {X:Cx}
end
section
variable {X:Cx} {Z:Zc} {a b:Expr} {fa fb:FE} {pos:Pos}
end
section
variable {X:Cx} {Z:Zc}
noncomputable def X':FS:=fun _ _=>False
theorem mq {st:Stmt}:VS X Z st X':=.mk fun tm pins s σ H D I ⟨_,_,_,_,h,_⟩=>h.elim
theorem IY:Hw X "dict.setdefault" (fun x xs H Q=>∃ (a:Addr) (bg:List (Key×V)) (k:Key) (v:V),x = .ref a∧xs=[kV k,v]∧H a=some (.dK bg)∧bg.length < sizeLine ∧
  (∀ u,jv bg k=some u→Q u H)∧(jv bg k=none→Q v (upd H a (.dK (L2.putK bg k v))))):=by
 intro pins s σ H x xs v us Q I rx rs h
 obtain ⟨a,bg,k,y,rfl,rfl,ha,zv,q1,q2⟩:=h
 cases rx
 obtain ⟨u1,u2,rfl,ru1,ru2⟩:∃ u1 u2,us=[u1,u2]∧RelV (kV k) u1∧RelV y u2:=by
  cases rs with
  | cons r1 t=>cases t with
    | cons r2 t2=>cases t2; exact ⟨_,_,rfl,r1,r2⟩
 obtain ⟨z,hd,vs,rel,dd⟩:=Er I.bV ha
 refine call_meetsIn PySem.F.slot_dict_setdefault dd.typeIs PySem.F.entry_dict_setdefault (PySem.F.args_dict_setdefault_3 _ _ _) (kt_meets_setdefault (bz X.prog X.w) a (vU ru1) hd u2) ⟨vs,dd,by rw [← rel.length]; omega,fun v0 hv=>?_,fun hn h' RJ hs=>?_⟩
 · have uZ:=rel.val k
   rw [hv] at uZ
   cases e:jv bg k with
   | none=>rw [e] at uZ; cases uZ
   | some w0 =>
     rw [e] at uZ
     have hr:RelV w0 v0:=uZ
     exact ⟨w0,H,I.tok _,hr,q1 w0 e⟩
 · have uZ:=rel.val k
   rw [hn] at uZ
   cases e:jv bg k with
   | some w0=>rw [e] at uZ; cases uZ
   | none =>
     have he:∃ q,h'.get? a=some q:=let ⟨q,_,_,hq,_⟩:=RJ; ⟨q,hq⟩
     have hl:(L2.putK bg k y).length≤sizeLine:=by have:=vT bg k y; omega
     exact ⟨y,_,IS (t':=s.toks+1) I (by rw [ha]; exact True.intro) hs he (Np hl hd (rel.put k ru2) RJ),ru2,q2 e⟩
end
section
variable {X:Cx} {Z:Zc} {e1 e2:Expr} {f1 f2:FE} {apos bj:Pos}
noncomputable def KO (n:Nat) (f1 f2:FE):FX:=fun ρ Q=>match ρ[n]? with
 | some (some (.dk ks ts,true))=>f1 ρ fun x=>f2 ρ fun y=>match Ew x with
   | some k=>ts.length < 16777216∧match gg ks ts k with
     | some t=>Q ρ (.vw t)
     | none=>Q (ρ.set n (some (.dk (ks ++ [k]) (ts ++ [y]),true))) (.vw y)
   | none=>False
 | _=>False
theorem z7 (n:Nat) {x:Str} {p:Pos} (h1:VE X Z e1 f1) (h2:VE X Z e2 f2)
  (hN:X.N[n]?=some x:=by rfl) (hv:xA X.env.scope x:=by first | exact Or.inl rfl | exact Or.inr (Or.inl rfl) | exact Or.inr (Or.inr rfl)) (hd:(x == ("__debug__" : Str))=false:=by decide)
  (j8:(x == ("__classdict__" : Str))=false:=by decide) (dC:attributeBase (.Name x p) "setdefault" X.env (eval (.Name x p) X.env)=eval (.Name x p) X.env:=by rfl)
  (l_:((backTo bj (starEach [e1,e2] X.env)).all (fun x=>!x.1) && (backToKw bj (keywordEach [] X.env)).all (fun x=>x.1.isSome)
    && decide (([e1,e2]:List Expr).length+([]:List Keyword).length+(if ([]:List Keyword).isEmpty then 0 else 1) < 30))=true:=by rfl)
  (dD:(apos.endLine == bj.line)=true:=by rfl) (hs:starEach [e1,e2] X.env=(false,eval e1 X.env) :: starEach [e2] X.env:=by rfl) (rn:starEach [e2] X.env=(false,eval e2 X.env) :: starEach [] X.env:=by rfl)
  (d7:(backTo bj (starEach [e2] X.env)).any (·.1)=false:=by rfl) :
  VX X Z (.Call (.Attribute (.Name x p) "setdefault" apos) [e1,e2] [] bj) (KO n f1 f2):=.mk fun tm =>
 PE.weak (rC U0 PySem.F.slot_dict_setdefault PySem.F.type_dict_setdefault IY (fm hN hv hd j8) (bS (h1 tm) (bS (h2 tm) d6 rn) hs) dC l_ dD hs d7) fun σ H Q ⟨ρ,O,q,I,hf,kk⟩=>by
  unfold KO at hf
  split at hf
  · rename_i ks ts e0
    obtain ⟨l,g1,g2,xs,hl,g3,g4⟩:=I.root e0
    have ha:l∈av Z O:=jR _ (aQ.mpr (j7 g1))
    refine ⟨.ref l,g2,.inr (.inr (.inl ⟨rfl,.inl ⟨_,g3⟩⟩)),ρ,O,_,I,hf,fun t ht v H1 s1 a1=>⟨ρ,O,_,I.same s1,ht,fun y hy w H2 s2 a2=>?_⟩⟩
    split at hy
    · rename_i Pk ek
      obtain ⟨hlen,hy⟩:=hy
      have ev:v=kV Pk:=tU (.inl a1) ek
      subst ev
      have hz:(ks.zip xs).length < sizeLine:=by
       rw [sizeLine_eq,List.length_zip,hl,Nat.min_self,g4.length]
       omega
      have J:=(I.same s1).same s2
      have b4:=(g4.same s1).same s2
      refine ⟨l,ks.zip xs,Pk,w,rfl,rfl,s2 _ _ (s1 _ _ g3),hz,fun u hu=>?_,fun hn=>?_⟩
      · rw [gh] at hu
        cases eg:gg ks ts Pk with
        | none=>rw [(iK b4).2 eg] at hu; cases hu
        | some t0 =>
          rw [eg] at hy
          obtain ⟨v0,e1,e2⟩:=(iK b4).1 t0 eg
          rw [e1] at hu
          cases hu
          exact kk _ _ hy O _ _ ⟨J,e2⟩
      · rw [gh] at hn
        cases eg:gg ks ts Pk with
        | some t0 =>
          obtain ⟨v0,e1,e2⟩:=(iK b4).1 t0 eg
          rw [e1] at hn
          cases hn
        | none =>
          rw [eg] at hy
          have e1:L2.putK (ks.zip xs) Pk w=(ks ++ [Pk]).zip (xs ++ [w]):=by
           rw [Ep _ (by rw [gh]; exact hn),List.zip_append hl]
           rfl
          rw [e1]
          refine kk _ _ hy O _ _ ⟨J.wrote e0 g1 ⟨xs ++ [w],by simp [hl],a_,?_⟩,a2.wrote ha (s2 _ _ (s1 _ _ g3)) rfl⟩
          exact (b4.append (aA.cons a2 aA.nil)).wrote ha (s2 _ _ (s1 _ _ g3)) rfl
    · exact hy.elim
  · exact hf.elim
end
noncomputable def o9 {α:Type} (f:Str):List Str→List α→Option α
 | n :: ns,t :: ts=>match f == n with
   | true=>some t
   | false=>o9 f ns ts
 | _,_=>none
noncomputable def Bu (f:Str):List Str→List Str
 | []=>[f]
 | n :: ns=>if n=f then n :: ns else n :: Bu f ns
noncomputable def nP {α:Type} (f:Str) (u:α):List Str→List α→List α
 | n :: ns,t :: ts=>if n=f then u :: ts else t :: nP f u ns ts
 | _,_=>[u]
theorem o_ (f:Str):∀ (ns:List Str) (vs:List V),(ns.zip vs).lookup f=o9 f ns vs
 | [],vs=>by cases vs <;> rfl
 | n :: ns,[]=>rfl
 | n :: ns,v :: vs=>by
   rw [U9,GZ]
   unfold o9
   cases f == n with
   | true=>rfl
   | false=>exact o_ f ns vs
theorem vX (f:Str) (y:V):∀ (ns:List Str) (vs:List V),ns.length=vs.length→ja f y (ns.zip vs)=(Bu f ns).zip (nP f y ns vs)∧(Bu f ns).length=(nP f y ns vs).length
 | [],[],_=>⟨rfl,rfl⟩
 | [],v :: vs,h=>by simp at h
 | n :: ns,[],h=>by simp at h
 | n :: ns,v :: vs,h=>by
   have ih:=vX f y ns vs (by simpa using h)
   rw [U9]
   show (if n=f then (n,y) :: ns.zip vs else (n,v) :: ja f y (ns.zip vs))=_∧_
   unfold Bu nP
   by_cases e:n=f
   · rw [if_pos e,if_pos e,if_pos e]; exact ⟨rfl,by simpa using h⟩
   · rw [if_neg e,if_neg e,if_neg e,ih.1]; exact ⟨rfl,by simp [ih.2]⟩
section
variable {K:PySem.W.Frag} {H:Hp} {A:List Addr} {f:Str}
theorem vY:∀ {ns:List Str} {ts:List T} {vs:List V} {t:T},aA K H A ts vs→o9 f ns ts=some t→∃ v,o9 f ns vs=some v∧At K H A t v
 | [],ts,vs,t,_,e=>by cases ts <;> cases e
 | n :: ns,[],vs,t,_,e=>by cases e
 | n :: ns,t0 :: ts,vs,t,h,e=>by
   simp only [aA] at h
   obtain ⟨v,r,rfl,h1,h2⟩:=h
   unfold o9 at e ⊢
   cases q:f == n with
   | true=>rw [q] at e; cases e; exact ⟨v,rfl,h1⟩
   | false=>rw [q] at e; exact vY h2 e
theorem z8:∀ {ns:List Str} {ts:List T} {vs:List V} {t:T} {v:V},aA K H A ts vs→At K H A t v→aA K H A (nP f t ns ts) (nP f v ns vs)
 | [],ts,vs,t,v,_,q=>by
   have e1:nP f t [] ts=[t]:=by cases ts <;> rfl
   have e2:nP f v [] vs=[v]:=by cases vs <;> rfl
   rw [e1,e2]; exact aA.cons q aA.nil
 | n :: ns,[],vs,t,v,h,q=>by
   simp only [aA] at h
   subst h
   exact aA.cons q aA.nil
 | n :: ns,t0 :: ts,vs,t,v,h,q=>by
   simp only [aA] at h
   obtain ⟨v0,r,rfl,h1,h2⟩:=h
   unfold nP
   by_cases e:n=f
   · rw [if_pos e,if_pos e]; exact aA.cons q h2
   · rw [if_neg e,if_neg e]; exact aA.cons h1 (z8 h2 q)
end
section
variable {X:Cx} {Z:Zc} {e:Expr} {es:List Expr} {C:Addr} {f:Str} {pos:Pos}
noncomputable def Ya (C:Addr) (f:Str) (fe:FE):FP:=fun ρ Q=>fe ρ fun t=>match t with
 | .ins C' ns ts=>C'=C∧∃ u,o9 f ns ts=some u∧Q (.vw u)
 | _=>False
theorem iL {fe:FE} (cl:Hn X.K C) (na:dq X.K C f) (h:VR X Z e fe) (hb:attributeBase e f X.env (eval e X.env)=eval e X.env:=by rfl):VP X Z (.Attribute e f pos) (Ya C f fe):=.mk fun tm =>
 PE.weak (L1 (h tm) hb) fun σ H Q ⟨ρ,O,q,I,hf,k⟩=>⟨ρ,O,_,I,hf,fun t ht v H1 s1 a1=>by
  split at ht
  · rename_i C' ns ts
    obtain ⟨rfl,u,e1,hq⟩:=ht
    obtain ⟨a,dx,vs,rfl,hl,hd,hv⟩:=a1.ins
    obtain ⟨w,e2,e3⟩:=vY hv e1
    exact ⟨a,_,dx,_,w,rfl,hd,cl,na,by rw [o_]; exact e2,k _ hq _ H1 s1 ⟨I.same s1,e3⟩⟩
  · exact ht.elim⟩
noncomputable def EB (n:Nat) (C:Addr) (f:Str) (fe:FE):FS:=fun d ρ=>match ρ[n]? with
 | some (some (.ins C' ns ts,true))=>C'=C∧fe ρ fun v=>ts.length < 1000∧d.nx (ρ.set n (some (.ins C' (Bu f ns) (nP f v ns ts),true)))
 | _=>False
theorem km (n:Nat) {x:Str} {p l7:Pos} {fe:FE} (cl:Hn X.K C) (na:dq X.K C f) (he:VE X Z e fe)
  (hN:X.N[n]?=some x:=by rfl) (hv:xA X.env.scope x:=by first | exact Or.inl rfl | exact Or.inr (Or.inl rfl) | exact Or.inr (Or.inr rfl)) (hd:(x == ("__debug__" : Str))=false:=by decide)
  (j8:(x == ("__classdict__" : Str))=false:=by decide) (hs:swapsWith e (some (.Attribute (.Name x p) f l7)) pos.line X.env=pure false:=by rfl) :
  VS X Z (.Assign [.Attribute (.Name x p) f l7] e pos) (EB n C f fe):=.mk fun tm =>
 PS.weak (L3 (fm hN hv hd j8) (he tm) hs) fun D σ H ⟨ρ,O,d,I,q,F⟩=>by
  unfold EB at q
  split at q
  · rename_i C' ns ts e0
    obtain ⟨rfl,q⟩:=q
    obtain ⟨l,h1,h2,dx,xs,hl,h3,h4⟩:=I.root e0
    have ha:l∈av Z O:=jR _ (aQ.mpr (j7 h1))
    refine ⟨ρ,O,_,I,q,fun t ht v H1 s1 a1=>⟨.ref l,h2,l,_,dx,_,rfl,s1 _ _ h3,cl,na,?_,?_⟩⟩
    · rw [List.length_zip,hl,Nat.min_self,h4.length]; exact ht.1
    · have pz:=vX f v ns xs hl
      rw [pz.1]
      refine F.nx O _ σ _ ((I.same s1).wrote (t':=.ins _ (Bu f ns) (nP f t ns ts)) e0 h1 ⟨dx,nP f v ns xs,pz.2,a_,?_⟩) ht.2
      exact aA.wrote ha (s1 _ _ h3) rfl (z8 (h4.same s1) a1)
  · exact q.elim
noncomputable def RL (K:PySem.W.Frag) (C:Addr) (n:Nat) (G:List T→(T→Prop)→Prop):Sp:=sR K (true :: List.replicate n false) fun ts q=>match ts with
 | .ins C' [] [] :: us=>C'=C∧G us fun u=>q [u] (.vw .bb)
 | _=>False
noncomputable def RM (n:Nat) (g:FA) (G:List T→(T→Prop)→Prop):FP:=fun ρ Q=>g ρ fun ts=>ts.length=n∧G ts fun u=>Q (.fr u)
theorem IZ {n:Nat} {G:List T→(T→Prop)→Prop} {tm:List (T×V)} {O:List (Option Addr)} {ρ:En} {σ:St} {H:Hp} {ts:List T} {vs:List V} {q:Rt→Prop} {Q:VK} (I:aw X.K Z tm O ρ σ H) (a:aA X.K H (av Z O) ts vs) (hn:ts.length=n) (hG:G ts fun u=>q (.fr u))
  (k:∀ r,q r→∀ v H',aX H H'→gU X.K Z tm O ρ σ H' r v→Q v H'):∀ x dx,H x=none→H dx=none→dx≠x→RL X.K C n G (.ref x :: (vs ++ [])) (upd (upd H dx (.own x)) x (.ins C dx [])) (fun v H2=>v = .bb∧Q (.ref x) H2) E0:=by
 intro x dx hx hdx gG
 rw [xw]
 obtain ⟨n1,n2,n3⟩:=I.fresh hx
 have s0:aX H (upd (upd H dx (.own x)) x (.ins C dx [])):=fun b o e=>by
  rw [aW (bh e hx),aW (bh e hdx)]; exact e
 have a1:aA X.K (upd (upd H dx (.own x)) x (.ins C dx [])) ([x] ++ av Z O) ts vs:=(a.more fun b hb=>by
  rcases g_.mp hb with z | z
  · exact .inr (by rw [ou.mp z]; exact hx)
  · exact .inl z).same s0
 refine ⟨.ins C [] [] :: ts,[x],av Z O,fun us r=>r = .vw .bb∧∃ u,us=[u]∧q (.fr u),by simp,fun b hb=>by rw [ou.mp hb]; exact n1,fun b hb=>?_,⟨x,[],_,ts,vs,rfl,rfl,rfl,⟨dx,[],rfl,a_,aA.nil⟩,gb hn a1⟩,⟨rfl,?_⟩,fun us r hr v H' fr z=>?_⟩
 · cases e:H b with
   | none=>exact absurd e (I.Km b hb)
   | some o=>rw [s0 _ _ e]; simp
 · have w:(fun u=>q (.fr u))=fun u=>((.vw .bb:Rt) = .vw .bb∧∃ u',[u]=[u']∧q (.fr u')):=by
    funext u
    exact propext ⟨fun h=>⟨rfl,u,rfl,h⟩,fun ⟨_,u',e,h⟩=>by cases e; exact h⟩
   rw [← w]; exact hG
 · obtain ⟨rfl,u,rfl,hq⟩:=hr
   obtain ⟨z1,z2⟩:=z
   simp only [At] at z1
   refine ⟨z1,?_⟩
   cases z2 with
   | cons r _ =>
     have s:aX H H':=fun b o e=>fr b o (s0 b o e) (by rw [ou]; exact bh e hx)
     obtain ⟨o,eo,_⟩:=r.mut
     refine k _ hq _ H' s ⟨x,rfl,I.DF hx s eo,r.bo fun c hc=>?_,n3,n2⟩
     rcases cR c hc with z | z
     · exact jW _ z
     · rw [z]; exact jR _ iw
theorem I8 {n kk:Nat} {g:FA} {G:List T→(T→Prop)→Prop} {fI:Addr} {fd:FuncData} {ps:List Str} {x:Str} {p:Pos} (M:Mk X.K C fI) (F:d0 X.prog X.w X.K X.mg X.base jk kk fI fd ps (RL X.K C n G)) (hr:bA (kk+1) X.A) (hg:Gl X x) (hm:X.mg x=some (.ref C)) (hb:Binds X.K fd ps []) (ha:VA X Z (e :: es) g)
  (qj:(x == ("__debug__" : Str))=false:=by decide) (he:starEach (e :: es) X.env=(false,eval e X.env) :: starEach es X.env:=by rfl) (jg:(backTo pos (starEach es X.env)).any (·.1)=false:=by rfl) :
  VP X Z (.Call (.Name x p) (e :: es) [] pos) (RM n g G):=.mk fun tm=>PE.weak (Hq M F hr hg hm hb .nil rE (ha tm) qj he jg) fun σ H Q ⟨ρ,O,q,I,hf,k⟩ =>
 ⟨ρ,O,_,I,hf,fun ts fj vs H1 s1 a1=>IZ (I.same s1) a1 fj.1 fj.2 fun r hr v H' s z=>k r hr v H' (s1.trans s) z⟩
end
structure Dc (K:PySem.W.Frag) (mg:Str→Option Value) (cls qual:Str) (st:Stmt) (ps:List Str) (C f:Addr) (fd:FuncData):Prop where
 F:Di K "__init__" qual st f fd
 m:mg cls=some (.ref C)
 b:Binds K fd ps []
 M:Mk K C f
noncomputable def NB (P:Program) (w:World) (K:PySem.W.Frag) (mg:Str→Option Value) (base:Heap) (cls:Str) (C:Addr) (ps:List Str) (k n:Nat) (G:List T→(T→Prop)→Prop):Prop :=
 ∃ f fd,Mk K C f∧mg cls=some (.ref C)∧Binds K fd ps []∧d0 P w K mg base jk k f fd ps (RL K C n G)
section
variable {P:Program} {w:World} {K:PySem.W.Frag} {mg:Str→Option Value} {base:Heap}
theorem Dc.i5 {cls qual:Str} {st:Stmt} {ps:List Str} {C f:Addr} {fd:FuncData} {k n:Nat} {G:List T→(T→Prop)→Prop} (D:Dc K mg cls qual st ps C f fd) (F:d0 P w K mg base jk k f fd ps (RL K C n G)):NB P w K mg base cls C ps k n G :=
 ⟨f,fd,D.M,D.m,D.b,F⟩
theorem fnI {x qual:Str} {st:Stmt} {f C:Addr} {fd:FuncData} {N ps:List Str} {k n:Nat} {G:List T→(T→Prop)→Prop} (F:Di K x qual st f fd) (S:aN N ps (ak st)) (hn:n+1=ps.length)
  (jh:∀ (bO:Value) (A:Around) (outer:List Env) (s:Shared) (H:Hp) (E:XK) (as Ox:List Addr),bA k (A.deeper (envOfC qual (ak st) s.heap.objs.size f bO))→∀ (us:List T) (q:List T→Rt→Prop),us.length=n→G us (fun u=>q [u] (.vw .bb)) →
    ∃ g,nL (iA jk P w K mg base N qual (ak st) f bO A outer s H E).uW ⟨H,pz (true :: List.replicate n false) as 0,Ox⟩ (cQ st) g ∧
     g { nx:=fun ρ=>q (nM (true :: List.replicate n false) ρ) (.vw .bb),rt:=fun ρ r=>q (nM (true :: List.replicate n false) ρ) r } (some (.ins C [] [],true) :: xC (List.replicate n false) us ++ List.replicate (N.length - (us.length+1)) none)) :
  d0 P w K mg base jk (k+1) f fd ps (RL K C n G) :=
 Vu F S (by rw [← hn]; simp) fun bO A outer s H E as Ox hr ts q hl hG=>by
  cases ts with
  | nil=>exact hG.elim
  | cons t us=>cases t with
    | ins C' ns vs=>cases ns with
      | nil=>cases vs with
        | nil =>
          obtain ⟨e,hG'⟩:=hG
          subst e
          exact jh bO A outer s H E as Ox hr us q (by simpa using hl) hG'
        | cons _ _=>exact hG.elim
      | cons _ _=>exact hG.elim
    | _=>exact hG.elim
end
noncomputable def z9 (a d:Addr):HO:=.ext fun h=>h.get? a=some { cls:=.type "dict_values",data:=.fields #[.ref d] }
theorem vZ (val:Nat→Int):∀ k,∃ j≤k,argBest (fun i j=>decide (val i < val j)) k=j∧∀ i≤k,val j≤val i
 | 0=>⟨0,cA _,rfl,fun i hi=>by rw [Nat.le_zero.mp hi]; exact Int.le_refl _⟩
 | k+1=>by
   obtain ⟨j,hj,e,h⟩:=vZ val k
   unfold argBest
   rw [e]
   by_cases q:val (k+1) < val j
   · rw [if_pos (decide_eq_true q)]
     refine ⟨k+1,cA _,rfl,fun i hi=>?_⟩
     rcases Nat.lt_or_eq_of_le hi with l | l
     · exact Int.le_trans (Int.le_of_lt q) (h i (Nat.le_of_lt_succ l))
     · rw [l]; exact Int.le_refl _
   · rw [if_neg (by rw [decide_eq_true_eq]; exact q)]
     refine ⟨j,Nat.le_succ_of_le hj,rfl,fun i hi=>?_⟩
     rcases Nat.lt_or_eq_of_le hi with l | l
     · exact h i (Nat.le_of_lt_succ l)
     · rw [l]; exact Int.not_lt.mp q
section
variable {X:Cx}
theorem Bv:Hw X "dict.values" (fun x xs H Q=>∃ (d:Addr) (bg:List (Key×V)),x = .ref d∧xs=[]∧H d=some (.dK bg)∧∀ a,H a=none→Q (.ref a) (upd H a (z9 a d))):=by
 intro pins s σ H x xs v us Q I rx rs h
 obtain ⟨d,bg,rfl,rfl,hd,q⟩:=h
 cases rx
 cases rs
 obtain ⟨z,hs,vs,rel,dd⟩:=Er I.bV hd
 refine call_meetsIn PySem.F.slot_dict_values dd.typeIs PySem.F.entry_dict_values (PySem.F.args_dict_values_1 _) (meets_dict_values (bz X.prog X.w) d hs) ⟨⟨vs,dd⟩,?_⟩
 refine ⟨.ref s.heap.objs.size,_,I.laid (a:=s.heap.objs.size) (t':=s.toks) (fun b o e=>fF _ e) (cA _) ?_,rfl,q _ I.fresh⟩
 exact ⟨mZ _ rfl,⟨_,mZ _ rfl⟩,fun h1 h2 z k=>k _ z⟩
theorem tV (hc:X.calm=true):c8 X (.builtin "min") (fun xs H Q=>∃ (a d:Addr) (bg:List (Key×V)) (is:List Int),xs=[.ref a]∧H a=some (z9 a d)∧H d=some (.dK bg)∧bg.map (·.2)=is.map V.int∧is≠[]∧∀ m,m∈is→(∀ i∈is,m≤i)→Q (.int m) H):=by
 intro pins s σ H xs us Q I r h
 obtain ⟨a,d,bg,is,rfl,ha,hd,hv,gG,q⟩:=h
 obtain ⟨u,rfl,ru⟩:=vals1 r
 cases ru
 obtain ⟨z,hs,vs,rel,dd⟩:=Er I.bV hd
 obtain ⟨hA,_,_⟩:=(show bX X.prog X.w H s.heap a (z9 a d) from I.bV a _ ha)
 obtain ⟨ep,da⟩:=dd.dictAt
 have hh:X.A.in1.handled=none:=by simp [I.ok.hd hc]
 have hlen:vs.length=is.length:=by
  have:=congrArg List.length hv
  rw [b_,b_] at this
  rw [← rel.length]; exact this
 have I9:∀ (i:Nat) (v:Value),(∃ k,vs[i]?=some (k,v))→∃ t,v = .int (is.getD i 0) t:=by
  intro i v ⟨k,e⟩
  have hi:i < vs.length:=(cn.mp e).1
  have Pl:i < bg.length:=by rw [rel.length]; exact hi
  have e1:bg[i]?=some bg[i]:=by simp [Pl]
  have key:∀ {l₁:List (Key×V)} {l₂:List (Key×Value)} {i:Nat} {p:Key×V} {q:Key×Value},KV l₁ l₂→l₁[i]?=some p→l₂[i]?=some q→RelV p.2 q.2:=by
   intro l₁ l₂ i p q h
   unfold KV at h
   induction h generalizing i with
   | nil=>intro e; simp at e
   | cons r t ih =>
     intro e e'
     cases i with
     | zero=>simp at e e'; subst e; subst e'; exact r.2
     | succ i=>exact ih (by simpa using e) (by simpa using e')
  have rr:=key rel e1 e
  have e2:(bg.map (·.2))[i]?=some bg[i].2:=by rw [gw,e1]; rfl
  rw [hv,gw] at e2
  cases q2:is[i]? with
  | none=>rw [q2] at e2; cases e2
  | some m =>
    rw [q2] at e2
    have e3:bg[i].2=V.int m:=(Option.some.inj e2).symm
    rw [e3] at rr
    obtain ⟨t,et⟩:=rr
    exact ⟨t,by rw [UW,q2]; exact et⟩
 have hn0:0 < vs.length:=by rw [hlen]; exact List.length_pos_iff.mpr gG
 refine call_min_walk (wpAny_pyIter_values ⟨_,hA,rfl,rfl⟩ da ?_)
 refine ⟨_,_,_,_,_,_,_,rfl,Walks.dictValues hh _ d (je da.lt_size) vs ep,⟨⟨_,mZ _ rfl,rfl,rfl⟩,da.push _⟩,fun b hb=>?_,hn0,CmpOf.ints_lt (fun i=>is.getD i 0) I9,fun v h' tk hP hk=>?_⟩
 · show b < (s.heap.push _).objs.size
   rw [xy]
   rcases cZ.mp hb with rfl | hb
   · exact xv _
   · rw [ou.mp hb]; exact GX da.lt_size
 · obtain ⟨j,hj,e,hm⟩:=vZ (fun i=>is.getD i 0) (vs.length - 1)
   rw [e] at hP
   obtain ⟨t,rfl⟩:=I9 j v hP
   have GP:j < is.length:=by omega
   refine ⟨.int (is.getD j 0),H,I.kept (t':=tk) fun b u eb=>hk b u (fun z=>?_) (fF _ eb),⟨t,rfl⟩,q _ ?_ fun i hi=>?_⟩
   · rw [ou.mp z] at eb
     exact absurd (fM eb) (Cr _)
   · rw [UW,fD GP]; exact Ll GP
   · obtain ⟨n,hn⟩:=CH.mp hi
     have hnl:n < is.length:=(cn.mp hn).1
     have:=hm n (by omega)
     have e5:is.getD n 0=i:=by rw [UW,hn]; rfl
     rw [e5] at this
     exact this
end
section
variable {X:Cx} {Z:Zc} {a:Expr} {fa:FE} {p1 apos Br qH:Pos}
noncomputable def RN (fa:FE):FP:=fun ρ Q=>fa ρ fun x=>match x with
 | .dk ks ts=>∃ is,ts=is.map T.int∧is≠[]∧∀ m,m∈is→(∀ i∈is,m≤i)→Q (.vw (.int m))
 | _=>False
theorem yy (hc:X.calm=true) (NC:Gl X "min") (Yb:X.mg "min" = none) (ha:VR X Z a fa)
  (dC:attributeBase a "values" X.env (eval a X.env)=eval a X.env:=by rfl) (dD:(apos.endLine == qH.line)=true:=by rfl)
  (he:starEach [.Call (.Attribute a "values" apos) [] [] qH] X.env=(false,eval (.Call (.Attribute a "values" apos) [] [] qH) X.env) :: starEach [] X.env:=by rfl) (jg:(backTo Br (starEach [] X.env)).any (·.1)=false:=by rfl) :
  VP X Z (.Call (.Name "min" p1) [.Call (.Attribute a "values" apos) [] [] qH] [] Br) (RN fa):=.mk fun tm =>
 PE.weak (kJ (tV hc) NC Yb Rk (bS (Dd U0 PySem.F.slot_dict_values PySem.F.type_dict_values Bv (ha tm) dC dD) d6 he) (by decide) (by decide) he jg) fun σ H Q ⟨ρ,O,q,I,hf,k⟩ =>
  ⟨ρ,O,_,I,hf,fun x hx v H1 s1 a1=>by
    split at hx
    · rename_i ks ts
      obtain ⟨is,rfl,gG,hq⟩:=hx
      obtain ⟨d,vs,rfl,hl,hd,hv⟩:=a1.dk
      refine ⟨.inr (.inr (.inl ⟨rfl,.inl ⟨_,hd⟩⟩)),d,_,rfl,rfl,hd,fun b hb=>?_⟩
      have sb:aX H1 (upd H1 b (z9 b d)):=aU hb
      have ev:vs=is.map V.int:=by
       clear hq gG hl hd a1
       induction is generalizing vs with
       | nil=>simpa only [Cs,aA] using hv
       | cons i is ih =>
         simp only [g9,aA,At] at hv
         obtain ⟨v,r,rfl,rfl,h2⟩:=hv
         rw [ih r h2]; rfl
      subst ev
      refine ⟨b,d,_,is,rfl,a_,sb _ _ hd,?_,gG,fun m h1 h2=>k _ (hq m h1 h2) _ _ (s1.trans sb) ⟨(I.same s1).same sb,bG⟩⟩
      rw [List.map_snd_zip]
      rw [hl]; exact cA _
    · exact hx.elim⟩
end
noncomputable def ND (X:Cx) (i:Nat) (y:Str):Cx:={ X with N:=X.N.set i y }
theorem NF {X:Cx} {i:Nat} {y:Str} (o:X.Ok):(ND X i y).Ok :=
 ⟨o.mod,o.kind,o.glob,o.blt,o.above,o.inj,o.has,o.Lv,o.hd,o.frames,o.O7,o.Vd,o.bs,o.Cv,o.xK,o.AB,o.kF,o.G7⟩
theorem EC {X:Cx} {i:Nat} {y:Str} (o:(ND X i y).Ok):X.Ok :=
 ⟨o.mod,o.kind,o.glob,o.blt,o.above,o.inj,o.has,o.Lv,o.hd,o.frames,o.O7,o.Vd,o.bs,o.Cv,o.xK,o.AB,o.kF,o.G7⟩
theorem I_ {X:Cx} {pins:List (Addr×Obj)} {σ:St} {H:Hp} {s:Shared} (i:Nat) (y:Str) (I:Inv X pins σ H s):Inv (ND X i y) pins (σ.set i none) H s:=by
 obtain ⟨m,hn,hl⟩:=I.loc
 refine ⟨NF I.ok,I.os,I.bare,I.base,⟨m,hn,fun j x v h1 h2 h3=>?_⟩,I.cell,I.free,I.hJ,I.pin,I.bV,?_⟩
 · rcases get_set h2 with ⟨_,e,_⟩ | ⟨ne,h2⟩
   · cases e
   · have GK:(X.N.set i y)[j]?=some x:=h1
     rw [qg (Ne.symm ne)] at GK
     exact hl j x v GK h2 h3
 · show (σ.set i none).length=(X.N.set i y).length
   rw [G2,G2]; exact I.len
theorem jN {X:Cx} {pins:List (Addr×Obj)} {σ:St} {H:Hp} {s:Shared} {i:Nat} {y:Str} (I:Inv (ND X i y) pins σ H s):Inv X pins (σ.set i none) H s:=by
 obtain ⟨m,hn,hl⟩:=I.loc
 refine ⟨EC I.ok,I.os,I.bare,I.base,⟨m,hn,fun j x v h1 h2 h3=>?_⟩,I.cell,I.free,I.hJ,I.pin,I.bV,?_⟩
 · rcases get_set h2 with ⟨_,e,_⟩ | ⟨ne,h2⟩
   · cases e
   · refine hl j x v ?_ h2 h3
     show (X.N.set i y)[j]?=some x
     rw [qg (Ne.symm ne)]; exact h1
 · have:=I.len
   have e:(ND X i y).N.length=X.N.length:=by show (X.N.set i y).length=_; rw [G2]
   rw [G2]; omega
noncomputable def ED (i:Nat) (d:GJ):GJ:={ nx:=fun ρ=>d.nx (ρ.set i none),rt:=fun ρ r=>d.rt (ρ.set i none) r,bk:=fun ρ=>d.bk (ρ.set i none),ct:=fun ρ=>d.ct (ρ.set i none) }
noncomputable def RO (i:Nat) (g:FS):FS:=fun d ρ=>g (ED i d) (ρ.set i none)
noncomputable def EE (i:Nat) (D:Ends):Ends:={ nx:=fun σ H=>D.nx (σ.set i none) H,rt:=D.rt,bk:=fun σ H=>D.bk (σ.set i none) H,ct:=fun σ H=>D.ct (σ.set i none) H }
theorem gU.nh {K:PySem.W.Frag} {Z:Zc} {tm:List (T×V)} {O:List (Option Addr)} {ρ:En} {σ:St} {H:Hp} {i:Nat} {r:Rt} {v:V} (s:Option V) (hp:a9 Z i) (h:gU K Z tm O ρ σ H r v):gU K Z tm (O.set i none) (ρ.set i none) (σ.set i s) H r v:=by
 cases r with
 | vw t=>exact ⟨h.1.nh s hp,h.2.bo (bM i)⟩
 | fr t =>
   obtain ⟨a,e,I,q,h0⟩:=h
   exact ⟨a,e,I.nh (Z:=Z.ex a) s hp,q.bo (bM i),h0⟩
theorem EF {K:PySem.W.Frag} {Z:Zc} {tm:List (T×V)} {d:GJ} {D:Ends} {i:Nat} (hp:a9 Z i) (F:Fin K Z tm d D):Fin K Z tm (ED i d) (EE i D) :=
 ⟨fun O ρ σ H I h=>F.nx _ _ _ H (I.nh none hp) h,fun O ρ σ H r v z h=>F.rt _ _ _ H r v (z.nh none hp) h,fun O ρ σ H I h=>F.bk _ _ _ H (I.nh none hp) h,fun O ρ σ H I h=>F.ct _ _ _ H (I.nh none hp) h⟩
section
variable {X:Cx} {Z:Zc} {st:Stmt} {bE:List Stmt} {g:FS}
theorem Ja {pins:List (Addr×Obj)} {D:Ends} {i:Nat} {y:Str}:∀ {f:Flow} {s':Shared},SP (ND X i y) pins (EE i D) f s'→SP X pins D f s'
 | .next,s',⟨σ',H',I,q⟩=>⟨σ'.set i none,H',jN I,q⟩
 | .brk,s',⟨σ',H',I,q⟩=>⟨σ'.set i none,H',jN I,q⟩
 | .cont,s',⟨σ',H',I,q⟩=>⟨σ'.set i none,H',jN I,q⟩
 | .ret u,s',⟨v,σ',H',I,r,q⟩=>⟨v,σ'.set i none,H',jN I,r,q⟩
theorem tW (i:Nat) (y:Str) (hp:a9 Z i) (h:VS (ND X i y) Z st g):VS X Z st (RO i g):=.mk fun tm pins s σ H D I ⟨ρ,O,d,J,q,F⟩ =>
 cb (h tm pins s (σ.set i none) H (EE i D) (I_ i y I) ⟨ρ.set i none,O.set i none,ED i d,J.nh none hp,q,EF hp F⟩) fun f s' z=>Ja z
end
section
variable {X:Cx} {Z:Zc} {o e:Expr} {fo fe:FE} {apos bj:Pos}
noncomputable def Jb (fo fe:FE):FP:=fun ρ Q=>fo ρ fun x=>match x with
 | .str z=>fe ρ fun y=>match y with
   | .str y=>Q (.vw (.bl (Txt.startswith z y)))
   | _=>False
 | _=>False
theorem Bw (ho:VR X Z o fo) (he:VR X Z e fe) (dC:attributeBase o "startswith" X.env (eval o X.env)=eval o X.env:=by rfl)
  (l_:((backTo bj (starEach [e] X.env)).all (fun x=>!x.1) && (backToKw bj (keywordEach [] X.env)).all (fun x=>x.1.isSome)
    && decide (([e]:List Expr).length+([]:List Keyword).length+(if ([]:List Keyword).isEmpty then 0 else 1) < 30))=true:=by rfl)
  (dD:(apos.endLine == bj.line)=true:=by rfl) (hs:starEach [e] X.env=(false,eval e X.env) :: starEach [] X.env:=by rfl) (d7:(backTo bj (starEach [] X.env)).any (·.1)=false:=by rfl) :
  VP X Z (.Call (.Attribute o "startswith" apos) [e] [] bj) (Jb fo fe):=.mk fun tm =>
 PE.weak (rC PySem.F.plainAttrs_str PySem.F.slot_str_startswith PySem.F.type_str_startswith qm (ho tm) (bS (he tm) d6 hs) dC l_ dD hs d7) fun σ H Q ⟨ρ,O,q,I,hf,k⟩ =>
  ⟨ρ,O,_,I,hf,fun x hx v H1 s1 a1=>by
    split at hx
    · rename_i z
      have ev:=a1.str
      subst ev
      refine ⟨rfl,ρ,O,_,I.same s1,hx,fun y hy w H2 s2 a2=>?_⟩
      split at hy
      · have ew:=a2.str
        subst ew
        exact ⟨z,_,rfl,rfl,k _ hy _ H2 (s1.trans s2) ⟨(I.same s1).same s2,c_⟩⟩
      · exact hy.elim
    · exact hx.elim⟩
end
section
variable {X:Cx} {Z:Zc} {o e:Expr} {fo fe:FE} {apos bj:Pos}
noncomputable def RP (fo:FE) (g:FA):FP:=fun ρ Q=>fo ρ fun x=>match x with
 | .str z=>g ρ fun y=>∃ ys:List Str,y=[.lst (ys.map .str)]∧(ys.map (·.length)).sum+ys.length * z.length≤16777216∧Q (.vw (.str (Txt.join z ys)))
 | _=>False
theorem pb {K:PySem.W.Frag} {H:Hp} {A:List Addr}:∀ {ys:List Str} {vs:List V},aA K H A (ys.map .str) vs→vs=ys.map V.str
 | [],vs,h=>by simpa only [Cs,aA] using h
 | y :: ys,vs,h=>by
   simp only [g9,aA,At] at h
   obtain ⟨v,r,rfl,rfl,h⟩:=h
   rw [pb h]; rfl
theorem rW {g:FA} (ho:VR X Z o fo) (he:HK X Z [e] g) (dC:attributeBase o "join" X.env (eval o X.env)=eval o X.env:=by rfl)
  (l_:((backTo bj (starEach [e] X.env)).all (fun x=>!x.1) && (backToKw bj (keywordEach [] X.env)).all (fun x=>x.1.isSome)
    && decide (([e]:List Expr).length+([]:List Keyword).length+(if ([]:List Keyword).isEmpty then 0 else 1) < 30))=true:=by rfl)
  (dD:(apos.endLine == bj.line)=true:=by rfl) (hs:starEach [e] X.env=(false,eval e X.env) :: starEach [] X.env:=by rfl) (d7:(backTo bj (starEach [] X.env)).any (·.1)=false:=by rfl) :
  VP X Z (.Call (.Attribute o "join" apos) [e] [] bj) (RP fo g):=.mk fun tm =>
 PE.weak (rC PySem.F.plainAttrs_str PySem.F.slot_str_join PySem.F.type_str_join HG (ho tm) (he tm) dC l_ dD hs d7) fun σ H Q ⟨ρ,O,q,I,hf,k⟩ =>
  ⟨ρ,O,_,I,hf,fun x hx v H1 s1 a1=>by
    split at hx
    · rename_i z
      have ev:=a1.str
      subst ev
      refine ⟨rfl,ρ,O,_,I.same s1,hx,fun y hy w H2 s2 a2=>?_⟩
      obtain ⟨ys,rfl,hl,hq⟩:=hy
      obtain ⟨u,rfl,a3⟩:=cx a2
      obtain ⟨p,vs,rfl,h1,h2⟩:=a3.lst
      have ev:=pb h2
      subst ev
      exact ⟨z,p,ys,rfl,rfl,h1,hl,k _ hq _ H2 (s1.trans s2) ⟨(I.same s1).same s2,bJ⟩⟩
    · exact hx.elim⟩
end
theorem gi {α:Type} {f u:α→T} {h:FG} {fe:FE} {ρ:En}:∀ {xs:List α} {Q:List T→Prop},(∀ x∈xs,∀ r:T→Prop,r (u x)→h (f x) ρ fun ρ2=>fe ρ2 r)→Q (xs.map u)→cH h vn fe ρ (xs.map f) Q
 | [],Q,_,hq=>hq
 | x :: xs,Q,step,hq=>by
   simp only [g9,cH]
   exact step x iw (fun y=>cH h vn fe ρ (xs.map f) fun us=>Q (y :: us)) (gi (Q:=fun us=>Q (u x :: us)) (fun y hy=>step y (jc _ hy)) hq)
theorem gM {lo:Int} {n:Nat} {u:Nat→T} {h:FG} {fe:FE} {ρ:En} {Q:List T→Prop} (step:∀ i < n,∀ r:T→Prop,r (u i)→h (.int (lo+(i:Int))) ρ fun ρ2=>fe ρ2 r) (hq:Q ((List.range n).map u)):cH h vn fe ρ (rangeT lo n) Q :=
 gi (f:=fun i:Nat=>T.int (lo+(i:Int))) (u:=u) (fun i hi=>step i (Cp.mp hi)) hq
theorem v3 {h:FG} {fe:FE} {ρ:En} {Q:List T→Prop} {Pd:T→Prop}:∀ {ts:List T},(∀ t∈ts,∀ r:T→Prop,(∀ x,Pd x→r x)→h t ρ fun ρ2=>fe ρ2 r)→(∀ us:List T,us.length=ts.length→(∀ x∈us,Pd x)→Q us)→cH h vn fe ρ ts Q
 | [],_,hq=>hq [] rfl (fun _ z=>nomatch z)
 | t :: ts,step,hq=>by
   simp only [cH]
   have:=step t iw (fun u=>cH h vn fe ρ ts fun us=>Q (u :: us)) fun x hx=>v3 (fun t ht=>step t (jc _ ht)) fun us hl ha=>hq (x :: us) (by simp [hl]) fun y hy=>by
    rcases cZ.mp hy with z | z
    · rw [z]; exact hx
    · exact ha y z
   exact this
theorem v5 {α:Type} {f:α→T} {R:α→Prop}:∀ us:List T,(∀ t∈us,∃ a,t=f a∧R a)→∃ as:List α,us=as.map f∧∀ a∈as,R a
 | [],_=>⟨[],rfl,fun _ z=>nomatch z⟩
 | t :: us,h=>by
   obtain ⟨a,rfl,ha⟩:=h t iw
   obtain ⟨as,rfl,hs⟩:=v5 us fun t ht=>h t (jc _ ht)
   exact ⟨a :: as,rfl,fun b hb=>by
    rcases cZ.mp hb with z | z
    · rw [z]; exact ha
    · exact hs b z⟩
section
variable {X:Cx} {Z:Zc} {a b o e i:Expr} {fa fb fe fo fi:FE} {pos apos bj:Pos}
noncomputable def RQ (k:Nat) (f:FP):FX:=fun ρ Q=>match ρ[k]? with
 | some (some (.lst ts,true))=>f ρ fun r=>match r with
   | .fr (.lst us)=>ts.length+us.length≤sizeLine∧Q (ρ.set k (some (.lst (ts ++ us),true))) (.vw .bb)
   | _=>False
 | _=>False
theorem Jc (k:Nat) {x:Str} {p:Pos} {f:FP} (he:VP X Z e f)
  (hN:X.N[k]?=some x:=by rfl) (hv:xA X.env.scope x:=by first | exact Or.inl rfl | exact Or.inr (Or.inl rfl) | exact Or.inr (Or.inr rfl)) (hd:(x == ("__debug__" : Str))=false:=by decide)
  (j8:(x == ("__classdict__" : Str))=false:=by decide) (dC:attributeBase (.Name x p) "extend" X.env (eval (.Name x p) X.env)=eval (.Name x p) X.env:=by rfl)
  (l_:((backTo bj (starEach [e] X.env)).all (fun x=>!x.1) && (backToKw bj (keywordEach [] X.env)).all (fun x=>x.1.isSome)
    && decide (([e]:List Expr).length+([]:List Keyword).length+(if ([]:List Keyword).isEmpty then 0 else 1) < 30))=true:=by rfl)
  (dD:(apos.endLine == bj.line)=true:=by rfl) (hs:starEach [e] X.env=(false,eval e X.env) :: starEach [] X.env:=by rfl) (d7:(backTo bj (starEach [] X.env)).any (·.1)=false:=by rfl) :
  VX X Z (.Call (.Attribute (.Name x p) "extend" apos) [e] [] bj) (RQ k f):=.mk fun tm =>
 PE.weak (rC UZ PySem.F.slot_list_extend PySem.F.type_list_extend AR (fm hN hv hd j8) (bS (he tm) d6 hs) dC l_ dD hs d7) fun σ H Q ⟨ρ,O,q,I,hf,kk⟩=>by
  unfold RQ at hf
  split at hf
  · rename_i ts e0
    obtain ⟨l,h1,h2,xs,h3,h4⟩:=I.root e0
    have ha:l∈av Z O:=jR _ (aQ.mpr (j7 h1))
    refine ⟨.ref l,h2,.inl ⟨rfl,xs,gy.of h3⟩,ρ,O,_,I,hf,fun r hr v H1 s1 z=>?_⟩
    split at hr
    · obtain ⟨hz,hq⟩:=hr
      have J:=z.env
      obtain ⟨b,rfl,I2,⟨zs,hb,aL⟩,_,_⟩:=z
      have aL':=aL.bo fN
      refine ⟨l,b,xs,zs,rfl,rfl,s1 _ _ h3,hb,by rw [h4.length,aL.length]; exact hz,kk _ _ hq O _ _ ⟨J.wrote e0 h1 ⟨xs ++ zs,a_,?_⟩,md⟩⟩
      exact ((h4.same s1).append aL').wrote ha (s1 _ _ h3) rfl
    · exact hr.elim
  · exact hf.elim
end
noncomputable def andM (r:Rt) (A B:Prop):Prop:=match r with
 | .vw (.bl true)=>A
 | .vw (.bl false)=>B
 | _=>False
theorem z_ {c:Bool} {A B:Prop} (h1:c=true→A) (h2:c=false→B):andM (.vw (.bl c)) A B:=by
 cases c with
 | true=>exact h1 rfl
 | false=>exact h2 rfl
end VT
namespace bK
open PySem L2 VT Gen Nk
open Dr (bF)
noncomputable def top (i:Nat):Stmt:=PySem.Challenge.pw_slicewise_k51_all_and_none.main.body.getD i (.Pass ⟨0,0,0,0⟩)
noncomputable abbrev ij:Stmt:=top 45
noncomputable abbrev k8:Stmt:=top 46
noncomputable abbrev jw:Stmt:=top 47
noncomputable abbrev ik:Stmt:=top 48
noncomputable abbrev v7:Stmt:=top 49
noncomputable abbrev jx:Stmt:=top 50
structure Mg (mg:Str→Option Value):Prop where
 len:mg "len" = none
 range:mg "range" = none
 tuple:mg "tuple" = none
theorem cz {n:Nat} (h:n≤1000):n≤sizeLine:=Gen.small h
noncomputable abbrev eC (ys:List Str):T:=.lst (ys.map .str)
noncomputable def iM (pl:Plan):T:=.lst (pl.map fun p=>.tup [.str p.1,.int (p.2.length:Int)])
noncomputable def Jd (n:Int):Prop:=0≤n∧n < 2147483648
theorem Jd.div {n:Int} (h:Jd n) {e:Int} (he:0 < e):Jd (n / e):=⟨Int.ediv_nonneg h.1 (by omega),Int.lt_of_le_of_lt (Int.ediv_le_self _ h.1) h.2⟩
structure Ys (ys:List Str):Prop where
 l3:3≤ys.length
 l8:ys.length≤8
 sm:∀ y∈ys,y.length≤100
theorem Ys.at {ys:List Str} (h:Ys ys) (n:Int):∃ y∈ys,jH (ys.map T.str) (n % ((ys.map T.str).length:Int))=some (T.str y):=by
 have e:((ys.map T.str).length:Int)=(ys.length:Int):=by rw [b_]
 have l3:=h.l3
 have h0:0≤n % ((ys.map T.str).length:Int):=kC n (by omega)
 have h1:n % ((ys.map T.str).length:Int) < ys.length:=by rw [e]; exact lT n (by omega)
 obtain ⟨j,hj⟩:=nH h0
 have gz:j < ys.length:=by omega
 refine ⟨ys[j],Ll gz,?_⟩
 rw [hj]
 refine aq ?_
 rw [gw,fD gz]
 rfl
theorem Ys.two {ys:List Str} (h:Ys ys) (n:Int):∃ y∈ys,jH (ys.map T.str) (n % 2)=some (T.str y):=by
 have l3:=h.l3
 have h0:0≤n % 2:=kC n (by decide)
 have h1:n % 2 < 2:=lT n (by decide)
 obtain ⟨j,hj⟩:=nH h0
 have gz:j < ys.length:=by omega
 refine ⟨ys[j],Ll gz,?_⟩
 rw [hj]
 refine aq ?_
 rw [gw,fD gz]
 rfl
theorem Ys.pos {ys:List Str} (h:Ys ys):(0:Int) < ((ys.map T.str).length:Int):=by rw [b_]; have:=h.l3; omega
noncomputable def KP (ts:List T) (q:Rt→Prop):Prop:=∃ (ns:List Int) (j:Nat),ts=[.lst (ns.map .int),.int (j:Int)]∧q (.vw (.int (ns.getD j 0)))
noncomputable def EG (ts:List T) (q:Rt→Prop):Prop:=∃ (c:Int) (m:Nat),ts=[.int c,.int (m:Int)]∧m≤8∧∀ ys,tS m ys→q (.fr (eC ys))
noncomputable def KQ (ts:List T) (q:Rt→Prop):Prop:=∃ c:Int,ts=[.int c]∧Jd c∧∀ i,-1000000000000000000000000000000≤i∧i < 1000000000000000000000000000000→q (.vw (.int i))
noncomputable def v8 (ts:List T) (q:Rt→Prop):Prop:=∃ (c:Int) (ys:List Str),ts=[.int c,eC ys]∧Jd c∧Ys ys∧∀ o,c5 ys o→q (.vw (m_ o))
noncomputable def RS (ts:List T) (q:Rt→Prop):Prop:=∃ (c:Int) (ys:List Str),ts=[.int c,eC ys]∧Jd c∧Ys ys∧∀ k,Bc ys k→q (.vw (DZ k))
noncomputable def KR (ts:List T) (q:Rt→Prop):Prop:=∃ (kd:Int) (c:Int) (ys:List Str) (pl:Plan),ts=[.int kd,.int c,eC ys,iM pl]∧Jd c∧Ys ys∧pl.length≤3∧(∀ p∈pl,p.2.length≤4)∧∀ r,h7 ys pl r→q (.vw (ax r))
theorem yz {α β:Type} (f:α→β) (l:List α) (k:Nat) (h:k≤l.length):gA (l.map f) none (some (k:Int))=(l.take k).map f:=by
 unfold gA
 rw [b_,HT.gE,HT.u4,Nat.min_eq_left h,List.drop_zero,Nat.sub_zero,← List.map_take]
theorem Yc (l:List Nat):((l.map one).map (·.length)).sum=l.length:=by
 induction l with
 | nil=>rfl
 | cons c l ih=>rw [g9,g9,List.sum_cons,ih]; show 1+l.length=l.length+1; omega
theorem NG:((("" : String):Str)).length=0:=by decide +kernel
theorem KS {l:List Nat} (h:l.length≤100):((l.map one).map (·.length)).sum+(l.map one).length * ((("" : String):Str)).length≤16777216:=by rw [Yc,NG]; omega
section
variable {P:Program} {w:World} {K:PySem.W.Frag} {mg:Str→Option Value} {base:Heap}
noncomputable abbrev By:List Str:=["_law_script","_law_k"]
theorem pd:aN By ["_law_script","_law_k"] (ak ij):=⟨rfl,rfl,rfl,by decide +kernel,rfl,by decide +kernel,by decide +kernel⟩
theorem yA {f:Addr} {fd:FuncData} (D:Df K mg "_law_cell_at" ij ["_law_script","_law_k"] f fd) (M:Mg mg):bY P w K mg base "_law_cell_at" ["_law_script","_law_k"] 1 (bQ K 2 KP):=by
 refine D.i5 (jJ D.F pd rfl fun bO A outer s H E Ox hr ts q hG=>?_)
 have nd:=pd.nd
 refine ⟨_,(ag (aY (rH (aa 1) (VP.vr (aG aI aJ (by rfl) M.len jd (ar (aa 0) az))))
    (ah (aD (VP.vx (aS (aa 0) (aa 1)))))
    aB)
   (ah (aD (VP.vx af)))),fun _=>?_⟩
 obtain ⟨ns,j,rfl,hq⟩:=hG
 refine nK (fun h=>?_) (fun h=>?_)
 · have h':(j:Int) < ((ns.map T.int).length:Int):=of_decide_eq_true h
   rw [b_] at h'
   have hj:j < ns.length:=by omega
   refine ⟨.int (ns.getD j 0),aq ?_,hq⟩
   rw [gw,fD hj,List.getD,fD hj]
   rfl
 · have h':¬ ((j:Int) < ((ns.map T.int).length:Int)):=fun z=>h (decide_eq_true z)
   rw [b_] at h'
   have e:ns.getD j 0=0:=by
    rw [List.getD,xH (by omega)]
    rfl
   rw [e] at hq
   exact hq
noncomputable abbrev EH:List Str:=["_law_cell"]
theorem rX:aN EH ["_law_cell"] (ak jw):=⟨rfl,rfl,rfl,by decide +kernel,rfl,by decide +kernel,by decide +kernel⟩
theorem mw {f:Addr} {fd:FuncData} (D:Df K mg "_law_number" jw ["_law_cell"] f fd) (M:Mg mg):bY P w K mg base "_law_number" ["_law_cell"] 1 (bQ K 1 KQ):=by
 refine D.i5 (jJ D.F rX rfl fun bO A outer s H E Ox hr ts q hG=>?_)
 have nd:=rX.nd
 have hu:=bA.fu hr
 refine ⟨_,(ag (aY (bB hu (VP.vr (a8 (aa 0) (VP.vr af))) (VP.vr af))
    (ah (aD (VP.vx (yd (VP.vr (a8 (VP.vr (ke (VP.vr (cj (VP.vr (iH (aa 0) (VP.vr af))) (VP.vr af))) (VP.vr af))) (VP.vr (iH (VP.vr af) (VP.vr (ke (VP.vr af) (VP.vr af))))))) (VP.vr (ke (VP.vr af) (VP.vr af)))))))
    aB)
   (ah (aD (VP.vx (yd (VP.vr (a8 (VP.vr (aZ (aa 0) (VP.vr af))) (VP.vr af))) (VP.vr af)))))),fun _=>?_⟩
 obtain ⟨c,rfl,⟨h0,h1⟩,hq⟩:=hG
 refine ⟨by decide,cJ (fun _=>?_) (fun _=>?_)⟩
 · refine ⟨.inl ⟨by omega,by omega⟩,⟨by decide,by decide,by show (c * 48271+7).natAbs < 2 ^ 64; omega⟩,⟨by decide,by decide,by decide⟩,.inl ⟨by decide,by decide⟩,by decide +kernel,⟨by decide,by decide,by decide⟩,hq _ ?_⟩
   rw [Rq]
   have g0:=kC ((c * 48271+7) ^ (5:Int).toNat) (show (2 * 1000000000000000000000000000000:Int)≠0 by decide)
   have g1:=lT ((c * 48271+7) ^ (5:Int).toNat) (show (0:Int) < 2 * 1000000000000000000000000000000 by decide)
   exact ⟨by omega,by omega⟩
 · refine ⟨⟨by decide,by decide⟩,by decide,hq _ ?_⟩
   have g0:=kC (c / 3) (show (7:Int)≠0 by decide)
   have g1:=lT (c / 3) (show (0:Int) < 7 by decide)
   exact ⟨by omega,by omega⟩
noncomputable abbrev Bz:List Str:=["_law_cell","_law_names_here"]
theorem pe:aN Bz ["_law_cell","_law_names_here"] (ak ik):=⟨rfl,rfl,rfl,by decide +kernel,rfl,by decide +kernel,by decide +kernel⟩
theorem kn {f:Addr} {fd:FuncData} (D:Df K mg "_law_operand" ik ["_law_cell","_law_names_here"] f fd) (M:Mg mg) (EI:bY P w K mg base "_law_number" ["_law_cell"] 1 (bQ K 1 KQ)):bY P w K mg base "_law_operand" ["_law_cell","_law_names_here"] 2 (bQ K 2 v8):=by
 obtain ⟨RT,Pm,EJ,EK,EL,EM⟩:=EI
 refine D.i5 (jJ D.F pe rfl fun bO A outer s H E Ox hr ts q hG=>?_)
 have nd:=pe.nd
 have hu:=bA.fu hr
 refine ⟨_,(ag (aY (bB hu (VP.vr (a8 (aa 0) (VP.vr af))) (VP.vr af))
    (ah (aD (VP.vx (aS (aa 1) (VP.vr (a8 (VP.vr (aZ (aa 0) (VP.vr af))) (VP.vr (aG aI aJ (by rfl) M.len jd (ar (aa 1) az)))))))))
    aB)
   (ah (aD (VP.vx (aK EM (hr.mono (by decide)) (by rfl) EJ EK EL (ae (VP.ve (aZ (aa 0) (VP.vr af))) ai)))))),fun _=>?_⟩
 obtain ⟨c,ys,rfl,R,Y,hq⟩:=hG
 refine ⟨by decide,cJ (fun _=>?_) (fun _=>?_)⟩
 · obtain ⟨y,hy,e⟩:=Y.at (c / 2)
   exact ⟨⟨by decide,by decide⟩,Y.pos,_,e,hq (.nm y) hy⟩
 · exact ⟨⟨by decide,by decide⟩,rfl,_,rfl,R.div (by decide),fun i hi=>hq (.nu i) hi⟩
noncomputable abbrev RU:List Str:=["_law_cell","_law_names_here"]
theorem EN:aN RU ["_law_cell","_law_names_here"] (ak v7):=⟨rfl,rfl,rfl,by decide +kernel,rfl,by decide +kernel,by decide +kernel⟩
theorem NH {f:Addr} {fd:FuncData} (D:Df K mg "_law_key" v7 ["_law_cell","_law_names_here"] f fd) (M:Mg mg) (eD:bY P w K mg base "_law_operand" ["_law_cell","_law_names_here"] 2 (bQ K 2 v8)):bY P w K mg base "_law_key" ["_law_cell","_law_names_here"] 3 (bQ K 2 RS):=by
 obtain ⟨mx,ko,cT,cU,cV,cW⟩:=eD
 refine D.i5 (jJ D.F EN rfl fun bO A outer s H E Ox hr ts q hG=>?_)
 have nd:=EN.nd
 have hu:=bA.fu hr
 refine ⟨_,(ag (aY (bB hu (VP.vr (a8 (aa 0) (VP.vr af))) (VP.vr af))
    (ah (aD (VP.vx (aK cW (hr.mono (by decide)) (by rfl) cT cU cV (ae (VP.ve (aZ (aa 0) (VP.vr af))) (ae (aj 1) ai))))))
    aB)
   (ah (aD (VP.vx (cj (VP.vr ay) (VP.vr (aS (aa 1) (VP.vr (a8 (VP.vr (aZ (aa 0) (VP.vr af))) (VP.vr af)))))))))),fun _=>?_⟩
 obtain ⟨c,ys,rfl,R,Y,hq⟩:=hG
 refine ⟨by decide,cJ (fun _=>?_) (fun _=>?_)⟩
 · exact ⟨⟨by decide,by decide⟩,rfl,_,ys,rfl,R.div (by decide),Y,fun o ho=>hq (.op o) ho⟩
 · obtain ⟨y,hy,e⟩:=Y.two (c / 3)
   refine ⟨⟨by decide,by decide⟩,by decide,_,e,?_,hq (.fld y) hy⟩
   rw [X3,sizeLine_eq]
   have:=Y.sm y hy
   omega
noncomputable abbrev Je:List Str:=["_law_cell","_law_many","_law_letters","_law_number_here","_law_size","_law_base","_law_names_here","_law_k","_law_here"]
theorem v_:aN Je ["_law_cell","_law_many"] (ak k8):=⟨rfl,rfl,rfl,by decide +kernel,rfl,by decide +kernel,by decide +kernel⟩
theorem wa:((["_law_cell","_law_many","_law_letters","_law_number_here","_law_size","_law_base","_law_names_here","#_law_k","_law_here"]:List Str) ++ (["_law_k"]:List Str)).Nodup:=by decide +kernel
theorem wb:((["_law_cell","_law_many","_law_letters","_law_number_here","_law_size","_law_base","_law_names_here","#_law_k","_law_here"]:List Str) ++ (["_law_k"]:List Str)).Nodup:=by decide +kernel
theorem wc:(["_law_cell","_law_many","_law_letters","_law_number_here","_law_size","_law_base","_law_names_here","#_law_k","_law_here"]:List Str).Nodup:=by decide +kernel
theorem EO {f:Addr} {fd:FuncData} (D:Df K mg "_law_names" k8 ["_law_cell","_law_many"] f fd) (M:Mg mg):bY P w K mg base "_law_names" ["_law_cell","_law_many"] 1 (bQ K 2 EG):=by
 refine D.i5 (jJ D.F v_ rfl fun bO A outer s H E Ox hr ts q hG=>?_)
 have nd:=v_.nd
 have hu:=bA.fu hr
 have np:∀ {i:Nat},a9 ⟨H,[],Ox⟩ i:=n5
 have npf:∀ {is:List Nat},∀ i∈is,a9 ⟨H,[],Ox⟩ i:=fun i _=>n5
 refine ⟨_,(ag (ba (i:=2) nd rfl (Or.inr rfl) (VP.vx ay) np)
   (ag (ba (i:=3) nd rfl (Or.inr rfl) (VP.vx (a8 (VP.vr (iH (VP.vr (a8 (aa 0) (VP.vr (ke (VP.vr af) (VP.vr af))))) (VP.vr af))) (VP.vr af))) np)
   (ag (ba (i:=4) nd rfl (Or.inl rfl) (VP.vx (cj (VP.vr af) (VP.vr (a8 (aa 3) (VP.vr af))))) np)
   (ag (tW 7 "#_law_k" np (ba (i:=5) wc rfl (Or.inr rfl) (VP.vx (dN (ts:=["_law_k"]) rfl (by rfl) (d8 (by rfl) M.range (VP.vr af)) (fun _ _ _ _ _ _=>(aV (i:=9) wa rfl (Or.inl rfl) np)) (fun _ _ _ _ _ _=>di) (fun _ _ _ _ _ _=>(VP.ve (aS (aa 2) (VP.vr (a8 (VP.vr (aZ (aa 3) (VP.vr (cj (VP.vr (iH (VP.vr af) (aa 9))) (VP.vr af))))) (VP.vr af)))))))) np))
   (ag (aY (bB hu (VP.vr (a8 (VP.vr (aZ (aa 3) (VP.vr af))) (VP.vr af))) (VP.vr af))
     (ah (tW 7 "#_law_k" np (aD (VP.vx (dN (ts:=["_law_k"]) rfl (by rfl) (d8 (by rfl) M.range (aa 1)) (fun _ _ _ _ _ _=>(aV (i:=9) wb rfl (Or.inl rfl) np)) (fun _ _ _ _ _ _=>di) (fun _ _ _ _ _ _=>(VP.ve (rW (VP.vr ay) (ar (VP.vr (fY (aa 5) kP (fH (VP.vr (cj (aa 9) (VP.vr af)))))) az)))))))))
     aB)
   (ag (c6 (i:=6) nd rfl (Or.inl rfl) (VP.vx (cg ai)) np)
   (ag (dM zk rfl (d8 (by rfl) M.range (aa 1)) (aV (i:=7) nd rfl (Or.inl rfl) np)
     (ag (c6 (i:=8) nd rfl (Or.inl rfl) (VP.vx (fY (aa 5) kP (fH (aa 4)))) np)
     (ag (gX 8 (VP.ve (aS (aa 2) (VP.vr (a8 (VP.vr (cj (VP.vr (aZ (aa 3) (VP.vr af))) (aa 7))) (VP.vr af))))) (VP.vr (a8 (VP.vr (aZ (aa 3) (VP.vr af))) (aa 4))))
     (Ic [8] (ah (bp (fZ 6 xF xG bx br (ae (VP.ve (rW (VP.vr ay) (ar (aa 8) az))) ai)))) npf))))
   (ah (aD (iI 6 np)))))))))),fun _=>?_⟩
 obtain ⟨c,m,rfl,hm,hq⟩:=hG
 refine ⟨⟨by decide,by decide,by decide⟩,by decide +kernel,.inr ⟨by decide,by decide⟩,by decide,by decide,?_⟩
 generalize hn:c % (10:Int) ^ (9:Int).toNat * 48271 % 2147483647=n
 have n0:0≤n:=by rw [← hn]; exact kC _ (by decide)
 have n1:n < 2147483647:=by rw [← hn]; exact lT _ (by decide)
 obtain ⟨sz,Yd⟩:=nH (show 0≤1+n % 8 by have:=kC n (show (8:Int)≠0 by decide); omega)
 have Ye:1≤sz:=by have:=kC n (show (8:Int)≠0 by decide); omega
 have NI:sz≤8:=by have:=lT n (show (0:Int) < 8 by decide); omega
 refine ⟨rfl,by decide,by decide,by rw [dv]; exact cz (by decide),?_⟩
 refine gM (u:=fun j=>.str (one (bL n j))) (fun j hj r hr=>?_) ?_
 · have hj8:j < 8:=hj
   rw [O5]
   refine ⟨.inl ⟨by decide,by decide⟩,⟨by show (0:Int) < 7 * (j:Int)+3; omega,by show 7 * (j:Int)+3 < 1073741824; omega⟩,by decide,?_⟩
   exact ⟨jZ,_,rL _,hr⟩
 · have eb:((List.range 8).map fun j=>T.str (one (bL n j)))=(d5 n).map T.str:=by unfold d5; rw [GA]; rfl
   rw [show (8:Int).toNat=8 from rfl,eb,Yd]
   refine ⟨⟨by decide,by decide⟩,by decide,cJ (fun _=>?_) (fun _=>?_)⟩
   · refine ⟨rfl,by omega,by omega,by rw [dv]; exact cz (by omega),?_⟩
     rw [lU]
     refine gM (u:=fun k=>.str (Nl n k)) (fun k hk r hr=>?_) ?_
     · rw [O5]
       have ec:gA ((d5 n).map T.str) none (some ((k:Int)+1))=(((List.range (k+1)).map (bL n)).map one).map T.str:=by
        have:((k:Int)+1)=((k+1:Nat):Int):=by omega
        rw [this,yz T.str (d5 n) (k+1) (by rw [o8]; omega),rR n (by omega)]
       refine ⟨((List.range (k+1)).map (bL n)).map one,?_,KS (by simp; omega),?_⟩
       · show [T.lst (gA ((d5 n).map T.str) none (some ((k:Int)+1)))]=_
         rw [ec]
       · rw [glue]; exact hr
     · have e2:((List.range m).map fun k=>T.str (Nl n k))=((List.range m).map (Nl n)).map T.str:=by rw [GA]; rfl
       rw [e2]
       exact hq _ (Nm n hm)
   · refine ⟨cz (by simp),by omega,by omega,?_⟩
     rw [lU]
     refine ki (fun k ρ=>∃ b7 b8,ρ=[some (.int c,false),some (.int (m:Int),false),some (.str bF,false),some (.int n,false),some (.int (sz:Int),false),some (.lst ((d5 n).map .str),false),some (.lst (((List.range k).map (alt n sz (n / 24 % (sz:Int)).toNat)).map .str),true),b7,b8]) ⟨_,_,rfl⟩ ?_ ?_
     · rintro k ρ hk ⟨b7,b8,rfl⟩
       rw [O5]
       have ec:gA ((d5 n).map T.str) none (some (sz:Int))=((d5 n).take sz).map T.str:=yz T.str (d5 n) sz (by rw [o8]; exact NI)
       have p0:0≤n / 24 % (sz:Int):=kC _ (by omega)
       have p1:n / 24 % (sz:Int) < (sz:Int):=lT _ (by omega)
       obtain ⟨p,ep⟩:=nH p0
       have hp:p < sz:=by omega
       have el:(((d5 n).take sz).map T.str).length=sz:=by rw [b_,CM,o8]; omega
       refine ⟨⟨by decide,by decide⟩,by decide,jZ,_,rL _,⟨by decide,by decide⟩,by show (0:Int) < (sz:Int); omega,p,?_,?_⟩
       · rw [ep]
         show qk (gA ((d5 n).map T.str) none (some (sz:Int))).length _=_
         rw [ec,el]
         unfold qk
         rw [if_pos (by omega),if_pos (by omega),lU]
       · have es:(((d5 n).take sz).map T.str).set p (T.str (one (qD (n / 5+(k:Int)))))=(((List.range sz).map (qG n p k)).map one).map T.str:=by
          rw [← Eo n NI hp,List.map_set]
         refine ⟨((List.range sz).map (qG n p k)).map one,?_,KS (by simp; omega),?_,some (.int (k:Int),false),?_⟩
         · show [T.lst ((gA ((d5 n).map T.str) none (some (sz:Int))).set p (T.str (one (qD (n / 5+(k:Int))))))]=_
           rw [ec,es]
         · rw [b_,b_,GY,sizeLine_eq]; omega
         · rw [glue]
           have eA:((List.range (k+1)).map (alt n sz (n / 24 % (sz:Int)).toNat)).map T.str=((List.range k).map (alt n sz (n / 24 % (sz:Int)).toNat)).map T.str ++ [T.str (alt n sz p k)]:=by
            rw [List.range_succ,xx,xx,ep]; rfl
           rw [eA]
           exact ⟨_,rfl⟩
     · rintro ρ ⟨b7,b8,rfl⟩
       refine hq _ (Nn n Ye NI ?_ (by omega))
       have p1:n / 24 % (sz:Int) < (sz:Int):=lT _ (by omega)
       omega
end
theorem we (pl:Plan):plainT (iM pl)=true:=by unfold iM; simp only [plainT]; exact d_ (fun _=>by simp [plainT,bZ]) pl
theorem BA (pl:Plan):dep (iM pl)≤100:=by
 unfold iM
 have:=h_ (f:=fun p:Str×List Str=>T.tup [.str p.1,.int (p.2.length:Int)]) (n:=1) (fun _=>by simp [dep,oI]) pl
 simp only [dep]; omega
section
variable {P:Program} {w:World} {K:PySem.W.Frag} {mg:Str→Option Value} {base:Heap}
noncomputable abbrev wg:List Str:=["_law_kind","_law_cell","_law_names_here","_law_there","_law_name","_law_one","_law_word","_law_other","_law_many"]
theorem rY:aN wg ["_law_kind","_law_cell","_law_names_here","_law_there"] (ak jx):=⟨rfl,rfl,rfl,by decide +kernel,rfl,by decide +kernel,by decide +kernel⟩
theorem tX:(wg ++ (["_law_k"]:List Str)).Nodup:=by decide +kernel
theorem BB {f:Addr} {fd:FuncData} (D:Df K mg "_law_simple" jx ["_law_kind","_law_cell","_law_names_here","_law_there"] f fd) (M:Mg mg) (eD:bY P w K mg base "_law_operand" ["_law_cell","_law_names_here"] 2 (bQ K 2 v8)) (RW:bY P w K mg base "_law_key" ["_law_cell","_law_names_here"] 3 (bQ K 2 RS)):bY P w K mg base "_law_simple" ["_law_kind","_law_cell","_law_names_here","_law_there"] 4 (bQ K 4 KR):=by
 obtain ⟨mx,ko,cT,cU,cV,cW⟩:=eD
 obtain ⟨acv,Yf,KU,KW,KY,KZ⟩:=RW
 refine D.i5 (jJ D.F rY rfl fun bO A outer s H E Ox hr ts q hG=>?_)
 have nd:=rY.nd
 have hu:=bA.fu hr
 have np:∀ {i:Nat},a9 ⟨H,[],Ox⟩ i:=n5
 refine ⟨_,(ag (ba (i:=4) nd rfl (Or.inl rfl) (VP.vx (aS (aa 2) (VP.vr (a8 (aa 1) (VP.vr (aG aI aJ (by rfl) M.len jd (ar (aa 2) az))))))) np)
   (ag (ba (i:=5) nd rfl (Or.inl rfl) (VP.vx (aK cW (hr.mono (by decide)) (by rfl) cT cU cV (ae (VP.ve (aZ (aa 1) (VP.vr af))) (ae (aj 2) ai)))) np)
   (ag (aY (rH (aa 0) (VP.vr af))
     (ah (aD (VP.vx (bw (ae (VP.ve ay) (ae (aj 4) (ae (aj 5) ai)))))))
     aB)
   (ag (aY (rH (aa 0) (VP.vr af))
     (ag (ba (i:=6) nd rfl (Or.inl rfl) (VP.vx (aS (VP.vr (cg (ae (VP.ve ay) (ae (VP.ve ay) (ae (VP.ve ay) (ae (VP.ve ay) (ae (VP.ve ay) (ae (VP.ve ay) (ae (VP.ve ay) ai))))))))) (VP.vr (a8 (VP.vr (aZ (aa 1) (VP.vr af))) (VP.vr af))))) np)
     (ah (aD (VP.vx (bw (ae (VP.ve ay) (ae (aj 4) (ae (aj 5) (ae (aj 6) (ae (VP.ve (aK cW (hr.mono (by decide)) (by rfl) cT cU cV (ae (VP.ve (aZ (aa 1) (VP.vr af))) (ae (aj 2) ai)))) ai))))))))))
     aB)
   (ag (aY (bB hu (aa 0) (VP.vr af))
     (ah (aD (VP.vx (bw (ae (VP.ve ay) (ae (aj 4) ai))))))
     aB)
   (ag (aY (bB hu (aa 0) (VP.vr af))
     (ah (aD (VP.vx (bw (ae (VP.ve ay) (ae (aj 4) (ae (VP.ve (aS (aa 2) (VP.vr (a8 (VP.vr (aZ (aa 1) (VP.vr af))) (VP.vr (aG aI aJ (by rfl) M.len jd (ar (aa 2) az))))))) (ae (VP.ve (aK KZ (hr.mono (by decide)) (by rfl) KU KW KY (ae (VP.ve (aZ (aa 1) (VP.vr af))) (ae (aj 2) ai)))) ai))))))))
     aB)
   (ag (aY (bB hu (aa 0) (VP.vr af))
     (ah (aD (VP.vx (bw (ae (VP.ve ay) (ae (aj 4) (ae (VP.ve (aK KZ (hr.mono (by decide)) (by rfl) KU KW KY (ae (VP.ve (aZ (aa 1) (VP.vr af))) (ae (aj 2) ai)))) (ae (aj 5) ai))))))))
     aB)
   (ag (aY (VW.vc (du (bB hu (aa 0) (VP.vr af)) (cS (i4 hu (aa 3) (VP.vr (cg ai))))))
     (ag (MH (VP.ve (aS (aa 3) (VP.vr (a8 (VP.vr (aZ (aa 1) (VP.vr af))) (VP.vr (aG aI aJ (by rfl) M.len jd (ar (aa 3) az))))))) (f_ (n:=2) rfl (bc (aV (i:=7) nd rfl (Or.inl rfl) np) (bc (aV (i:=8) nd rfl (Or.inl rfl) np) dJ))))
     (ah (aD (VP.vx (bw (ae (VP.ve ay) (ae (aj 4) (ae (aj 7) (ae (VP.ve (hW jX m8 (by rfl) M.tuple n6 (ar (VP.vr (dN (ts:=["_law_k"]) rfl (by rfl) (d8 (by rfl) M.range (aa 8)) (fun _ _ _ _ _ _=>(aV (i:=9) tX rfl (Or.inl rfl) np)) (fun _ _ _ _ _ _=>di) (fun _ _ _ _ _ _=>(VP.ve (aK cW (hr.mono (by decide)) (by rfl) cT cU cV (ae (VP.ve (aZ (aa 1) (VP.vr (cj (VP.vr af) (aa 9))))) (ae (aj 2) ai))))))) az))) ai)))))))))
     aB)
   (ag (aY (VW.vc (du (bB hu (aa 0) (VP.vr af)) (cS (bB hu (VP.vr (a8 (aa 1) (VP.vr af))) (VP.vr af)))))
     (ah (aD (VP.vx (bw (ae (VP.ve ay) (ae (VP.ve (aS (aa 2) (VP.vr (a8 (VP.vr (aZ (aa 1) (VP.vr af))) (VP.vr (aG aI aJ (by rfl) M.len jd (ar (aa 2) az))))))) ai))))))
     aB)
   (ag (aY (bB hu (aa 0) (VP.vr af))
     (ah (aD (VP.vx (bw (ae (VP.ve ay) ai)))))
     aB)
   (ah (aD (VP.vx (bw (ae (VP.ve ay) (ae (aj 4) (ae (aj 5) ai))))))))))))))))),fun _=>?_⟩
 obtain ⟨kd,c,ys,pl,rfl,R,Y,Yg,VN,hq⟩:=hG
 obtain ⟨y,hy,ey⟩:=Y.at c
 refine ⟨Y.pos,_,ey,⟨by decide,by decide⟩,rfl,_,ys,rfl,R.div (by decide),Y,fun o ho=>?_⟩
 refine cJ (fun _=>?_) (fun _=>?_)
 · exact ⟨cz (by simp),hq (.put y o) ⟨hy,ho⟩⟩
 refine cJ (fun _=>?_) (fun _=>?_)
 · obtain ⟨op,hop,eop⟩:=Rr (c / 35)
   exact ⟨cz (by simp),⟨by decide,by decide⟩,by decide,_,eop,⟨by decide,by decide⟩,rfl,_,ys,rfl,R.div (by decide),Y,fun o2 Cy=>⟨cz (by simp),hq (.CC y o op o2) ⟨hy,ho,hop,Cy⟩⟩⟩
 refine cJ (fun _=>⟨cz (by simp),hq (.new y) hy⟩) (fun _=>?_)
 refine cJ (fun _=>?_) (fun _=>?_)
 · obtain ⟨z,hz,ez⟩:=Y.at (c / 7)
   exact ⟨⟨by decide,by decide⟩,Y.pos,_,ez,⟨by decide,by decide⟩,rfl,_,ys,rfl,R.div (by decide),Y,fun k hk=>⟨cz (by simp),hq (.get y z k) ⟨hy,hz,hk⟩⟩⟩
 refine cJ (fun _=>?_) (fun _=>?_)
 · exact ⟨⟨by decide,by decide⟩,rfl,_,ys,rfl,R.div (by decide),Y,fun k hk=>⟨cz (by simp),hq (.set y k o) ⟨hy,hk,ho⟩⟩⟩
 refine cJ (fun h9=>?_) (fun _=>?_)
 · refine ⟨qe _,we pl,rfl,BA pl,?_⟩
   cases pl with
   | nil =>
     refine gB rfl ?_
     refine gB (c:=decide (kd=15)) (decide_eq_false (by omega)) ?_
     refine gB rfl ?_
     refine gB (c:=decide (kd=14)) (decide_eq_false (by omega)) ?_
     exact ⟨cz (by simp),hq (.put y o) ⟨hy,ho⟩⟩
   | cons p0 pl =>
     refine MZ rfl ?_
     have eL:(((p0 :: pl).map fun p=>T.tup [.str p.1,.int (p.2.length:Int)]).length:Int)=((p0 :: pl).length:Int):=by rw [b_]
     have acz:0 < (p0 :: pl).length:=by simp
     generalize p0 :: pl=K0 at *
     have h0:0≤c / 7 % ((K0.map fun p=>T.tup [.str p.1,.int (p.2.length:Int)]).length:Int):=kC _ (by omega)
     have h1:c / 7 % ((K0.map fun p=>T.tup [.str p.1,.int (p.2.length:Int)]).length:Int) < K0.length:=by rw [eL]; exact lT _ (by omega)
     obtain ⟨j,hj⟩:=nH h0
     have GP:j < K0.length:=by omega
     obtain ⟨p,hp⟩:∃ p:Str×List Str,p=K0[j]:=⟨_,rfl⟩
     obtain ⟨fn,ps⟩:=p
     have RX:(fn,ps)∈K0:=by rw [hp]; exact Ll GP
     have Pn:ps.length≤4:=VN _ RX
     refine ⟨⟨by decide,by decide⟩,by show (0:Int) < ((K0.map fun p=>T.tup [.str p.1,.int (p.2.length:Int)]).length:Int); omega,.tup [.str fn,.int (ps.length:Int)],?_,rfl,?_⟩
     · show jH _ (c / 7 % ((K0.map fun p=>T.tup [.str p.1,.int (p.2.length:Int)]).length:Int))=_
       rw [hj]
       refine aq ?_
       rw [gw,fD GP,← hp]
       rfl
     refine ⟨rfl,rfl,by show -(2 ^ 62:Int)≤(ps.length:Int); omega,by show (ps.length:Int) < 2 ^ 62; omega,by rw [dv]; exact cz (by show (ps.length:Int).toNat≤1000; omega),?_⟩
     refine v3 (Pd:=fun t=>∃ a,t=m_ a∧c5 ys a) (fun t ht r hr=>?_) fun us hl u7=>?_
     · obtain ⟨i,hi⟩:=CH.mp ht
       obtain ⟨gz,rfl⟩:=oZ hi
       refine ⟨⟨by show (0:Int) < 17+(0+(i:Int)); omega,?_⟩,rfl,_,ys,rfl,R.div (by omega),Y,fun o ho=>hr _ ⟨o,rfl,ho⟩⟩
       have:i < (ps.length:Int).toNat:=gz
       show 17+(0+(i:Int)) < 1073741824
       omega
     · obtain ⟨as,rfl,ha⟩:=v5 us u7
       rw [dv] at hl
       have Lw:as.length=ps.length:=by
        rw [b_] at hl
        have:as.length=(ps.length:Int).toNat:=hl
        omega
       refine ⟨cz (by simp),hq (.call y fn as) ⟨hy,⟨ps,RX,Lw⟩,ha⟩⟩
 · refine gB rfl ?_
   refine cJ (fun _=>⟨by decide,cJ (fun _=>?_) (fun _=>?_)⟩) (fun _=>gB rfl ?_)
   · obtain ⟨z,hz,ez⟩:=Y.at (c / 4)
     exact ⟨⟨by decide,by decide⟩,Y.pos,_,ez,cz (by simp),hq (.fail z) hz⟩
   · refine cJ (fun _=>⟨cz (by simp),hq .skip trivial⟩) (fun _=>⟨cz (by simp),hq (.put y o) ⟨hy,ho⟩⟩)
   · refine cJ (fun _=>⟨cz (by simp),hq .skip trivial⟩) (fun _=>⟨cz (by simp),hq (.put y o) ⟨hy,ho⟩⟩)
end
noncomputable abbrev wj:Stmt:=top 51
theorem fits {n:Nat} (h:n≤1001):n < sizeLine:=by rw [sizeLine_eq]; omega
theorem pf (l:List Str):plainT (.lst (l.map .str))=true:=by simp only [plainT]; exact d_ (fun _=>by simp [plainT]) l
theorem wm (l:List Str):dep (.lst (l.map .str))≤100:=by have:=h_ (f:=T.str) (n:=0) (fun _=>by simp [dep]) l; simp only [dep]; omega
noncomputable def MB:GT:=fun ts q=>∃ (rs:List Rw) (bE:List Str) (c:Int) (ys:List Str) (pl:Plan),ts=[.lst (rs.map ax),.lst (bE.map .str),.int c,eC ys,iM pl]∧Ys ys∧pl.length≤3∧(∀ p∈pl,p.2.length≤4)∧rs.length≤900∧bE.length≤4 ∧
 ∀ new cK,kj ys pl bE new cK→cK.length≤4→q [.lst ((rs ++ new).map ax),.lst (cK.map .str)] (.vw .bb)
noncomputable def Jf (q:List T→Rt→Prop) (rs:List Rw) (bE:List Str) (c n mv:Int) (ys:List Str) (pl:Plan):FS:=fun d ρ=>(∃ nv,ρ=[some (.lst (rs.map ax),true),some (.lst (bE.map .str),true),some (.int c,false),some (eC ys,false),some (iM pl,false),some (.int n,false),some (.int mv,false),nv]) ∧
 ∀ ρ,q (nM [true,true,false,false,false] ρ) (.vw .bb)→d.nx ρ
section
variable {P:Program} {w:World} {K:PySem.W.Frag} {mg:Str→Option Value} {base:Heap}
noncomputable abbrev RY:List Str:=["_law_rows","_law_blocks","_law_cell","_law_names_here","_law_there","_law_number_here","_law_kind","_law_name"]
theorem ER:aN RY ["_law_rows","_law_blocks","_law_cell","_law_names_here","_law_there"] (ak wj):=⟨rfl,rfl,rfl,by decide +kernel,rfl,by decide +kernel,by decide +kernel⟩
theorem NJ {f:Addr} {fd:FuncData} (D:Df K mg "_law_put" wj ["_law_rows","_law_blocks","_law_cell","_law_names_here","_law_there"] f fd) (M:Mg mg) (eD:bY P w K mg base "_law_operand" ["_law_cell","_law_names_here"] 2 (bQ K 2 v8)) (ES:bY P w K mg base "_law_simple" ["_law_kind","_law_cell","_law_names_here","_law_there"] 4 (bQ K 4 KR)):bY P w K mg base "_law_put" ["_law_rows","_law_blocks","_law_cell","_law_names_here","_law_there"] 5 (sR K [true,true,false,false,false] MB):=by
 obtain ⟨mx,ko,cT,cU,cV,cW⟩:=eD
 obtain ⟨RZ,Po,ET,EU,EV,EW⟩:=ES
 refine D.i5 (Vu D.F ER rfl fun bO A outer s H E as Ox hr ts q hl hG=>?_)
 have nd:=ER.nd
 have hu:=bA.fu hr
 obtain ⟨rs,bE,c,ys,pl,rfl,Y,Yg,VN,hr1,K1,hq⟩:=hG
 obtain ⟨n,hn⟩:∃ n,(c % (10:Int) ^ (9:Int).toNat+3) * 48271 % 2147483647=n:=⟨_,rfl⟩
 have R:Jd n:=⟨by rw [← hn]; exact kC _ (by decide),by rw [← hn]; have:=lT ((c % (10:Int) ^ (9:Int).toNat+3) * 48271) (show (0:Int) < 2147483647 by decide); omega⟩
 have EX:(rs.map ax).length < sizeLine:=by rw [b_]; exact fits (by omega)
 have R0:(bE.map T.str).length < sizeLine:=by rw [b_]; exact fits (by omega)
 have one:∀ {r:Rw} {cK:List Str},kj ys pl bE [r] cK→cK.length≤4→q [.lst (rs.map ax ++ [ax r]),.lst (cK.map .str)] (.vw .bb):=fun {r cK} h h4=>by
  have:=hq [r] cK h h4
  rw [xx] at this
  exact this
 have push:∀ x:Str,(bE ++ [x]).map T.str=bE.map T.str ++ [T.str x]:=fun x=>by rw [xx]; rfl
 have R1:((bE.map T.str).length:Int)=(bE.length:Int):=by rw [b_]
 refine ⟨_,(ag (ba (i:=5) nd rfl (Or.inl rfl) (VP.vx (a8 (VP.vr (iH (VP.vr (cj (VP.vr (a8 (aa 2) (VP.vr (ke (VP.vr af) (VP.vr af))))) (VP.vr af))) (VP.vr af))) (VP.vr af))) (zQ (by decide)))
   (ag (ba (i:=6) nd rfl (Or.inl rfl) (VP.vx (a8 (aa 5) (VP.vr af))) (zQ (by decide)))
   (ah (aY (VW.vc (du (bB hu (aa 6) (VP.vr af)) (cS (rH (VP.vr (aG aI aJ (by rfl) M.len jd (ar (aa 1) az))) (VP.vr af)))))
     (ag (bp (fZ 0 xF xG bx br (ae (VP.ve (bw (ae (VP.ve ay) (ae (VP.ve (aK cW (hr.mono (by decide)) (by rfl) cT cU cV (ae (VP.ve (aZ (aa 5) (VP.vr af))) (ae (aj 3) ai)))) ai)))) ai)))
     (ah (bp (fZ 1 xF xG bx br (ae (VP.ve ay) ai)))))
     (nL.weak (u:=(Jf q rs bE c n (n % 16) ys pl)) (ah (aY (VW.vc (du (bB hu (aa 6) (VP.vr af)) (cS (rH (VP.vr (aG aI aJ (by rfl) M.len jd (ar (aa 1) az))) (VP.vr af)))))
       (ag (ba (i:=7) nd rfl (Or.inl rfl) (VP.vx (aS (aa 3) (VP.vr (a8 (VP.vr (aZ (aa 5) (VP.vr af))) (VP.vr (aG aI aJ (by rfl) M.len jd (ar (aa 3) az))))))) (zQ (by decide)))
       (ag (bp (fZ 0 xF xG bx br (ae (VP.ve (bw (ae (VP.ve ay) (ae (aj 7) ai)))) ai)))
       (ag (bp (fZ 1 xF xG bx br (ae (VP.ve ay) ai)))
       (ah (aY (bB hu (VP.vr (a8 (VP.vr (aZ (aa 5) (VP.vr af))) (VP.vr af))) (VP.vr af))
         (ah (bp (fZ 0 xF xG bx br (ae (VP.ve (bw (ae (VP.ve ay) (ae (aj 7) (ae (aj 7) (ae (VP.ve ay) (ae (VP.ve af) ai))))))) ai))))
         aB)))))
       (nL.weak (u:=(Jf q rs bE c n (n % 16) ys pl)) (ah (aY (VW.vc (du (bB hu (aa 6) (VP.vr af)) (du (i4 hu (aa 1) (VP.vr (cg ai))) (cS (bB hu (VP.vr (aS (aa 1) (VP.vr (gW (VP.vr af))))) (VP.vr ay))))))
         (ag (bp (fZ 0 xF xG bx br (ae (VP.ve (bw (ae (VP.ve ay) ai))) ai)))
         (ah (gX 1 (VP.ve ay) (VP.vr (gW (VP.vr af))))))
         (nL.weak (u:=(Jf q rs bE c n (n % 16) ys pl)) (ah (aY (VW.vc (du (bB hu (aa 6) (VP.vr af)) (cS (i4 hu (aa 1) (VP.vr (cg ai))))))
           (ag (bp (fZ 0 xF xG bx br (ae (VP.ve (bw (ae (VP.ve ay) ai))) ai)))
           (ah (bp (yf 1 PySem.F.slot_list_pop PySem.F.type_list_pop x9 sQ))))
           (nL.weak (u:=(Jf q rs bE c n (n % 16) ys pl)) (ah (bp (fZ 0 xF xG bx br (ae (VP.ve (aK EW (hr.mono (by decide)) (by rfl) ET EU EV (ae (aj 6) (ae (VP.ve (aZ (aa 5) (VP.vr af))) (ae (aj 3) (ae (aj 4) ai)))))) ai)))) ?w5))) ?w4))) ?w3))) ?w2))))),?_⟩
 case w5 =>
  rintro d ρ ⟨⟨nv,rfl⟩,kk⟩
  exact ⟨⟨by decide,by decide⟩,rfl,_,_,ys,pl,rfl,R.div (by decide),Y,Yg,VN,fun r hs=>⟨EX,kk _ (one (.inr (.inr (.inr (.inr (.inr ⟨r,hs,rfl,rfl⟩))))) K1)⟩⟩
 case w4 =>
  rintro d ρ ⟨⟨nv,rfl⟩,kk⟩
  refine cJ (fun _=>?_) (fun _=>gB rfl ⟨⟨nv,rfl⟩,kk⟩)
  refine ⟨qe _,pf bE,rfl,wm bE,?_⟩
  rcases Lj bE with e | ⟨s0,x,e⟩
  · subst e; exact gB rfl ⟨⟨nv,rfl⟩,kk⟩
  · have en:eqT (.lst (bE.map .str)) (.lst [])=false:=by rw [e]; cases s0 <;> simp [eqT,fW]
    refine MZ (by show (!eqT (.lst (bE.map .str)) (.lst []))=true; rw [en]; rfl) ⟨cz (by simp),EX,rfl,T.str x,?_,?_⟩
    · rw [e]; simp
    · have e2:(bE.map T.str).dropLast=s0.map T.str:=by rw [e]; simp
      refine kk _ ?_
      show q [.lst (rs.map ax ++ [ax .fin]),.lst ((bE.map T.str).dropLast)] _
      rw [e2]
      exact one (.inr (.inr (.inr (.inr (.inl ⟨s0,x,by rw [e,OQ],rfl,rfl⟩))))) (by rw [e] at K1; simp at K1; omega)
 case w3 =>
  rintro d ρ ⟨⟨nv,rfl⟩,kk⟩
  refine cJ (fun _=>?_) (fun _=>gB rfl ⟨⟨nv,rfl⟩,kk⟩)
  refine ⟨qe _,pf bE,rfl,wm bE,?_⟩
  rcases Lj bE with e | ⟨s0,x,e⟩
  · subst e; exact gB rfl (gB rfl ⟨⟨nv,rfl⟩,kk⟩)
  · have en:eqT (.lst (bE.map .str)) (.lst [])=false:=by rw [e]; cases s0 <;> simp [eqT,fW]
    have ex:jH (bE.map T.str) (-1)=some (T.str x):=by rw [e,OQ,xx]; exact kL _ _
    refine MZ (by show (!eqT (.lst (bE.map .str)) (.lst []))=true; rw [en]; rfl) ⟨_,ex,cJ (fun hx=>?_) (fun _=>⟨⟨nv,rfl⟩,kk⟩)⟩
    have Pb:x="if":=hx
    subst Pb
    have Jg:(bE.map T.str).length=s0.length+1:=by rw [e]; simp
    refine ⟨cz (by simp),EX,s0.length,?_,kk _ ?_⟩
    · unfold qk
      rw [Jg,if_neg (by decide),if_pos (by omega)]
      congr 1
      omega
    · have e2:(bE.map T.str).set s0.length (T.str "else")=(s0 ++ ([("else" : Str)]:List Str)).map T.str:=by rw [e]; simp
      show q [.lst (rs.map ax ++ [ax .qF]),.lst ((bE.map T.str).set s0.length (T.str "else"))] _
      rw [e2]
      exact one (.inr (.inr (.inr (.inl ⟨s0,by rw [e]; simp,rfl,rfl⟩)))) (by rw [e] at K1; simpa using K1)
 case w2 =>
  rintro d ρ ⟨⟨nv,rfl⟩,kk⟩
  refine cJ (fun _=>?_) (fun _=>gB rfl ⟨⟨nv,rfl⟩,kk⟩)
  refine cJ (fun h4=>?_) (fun _=>⟨⟨nv,rfl⟩,kk⟩)
  have h4':bE.length < 4:=by
   have:((bE.map T.str).length:Int) < 4:=h4
   omega
  obtain ⟨y,hy,ey⟩:=Y.at (n / 32)
  refine ⟨⟨by decide,by decide⟩,Y.pos,_,ey,cz (by simp),EX,R0,⟨by decide,by decide⟩,by decide,cJ (fun _=>?_) (fun _=>?_)⟩
  · refine ⟨cz (by simp),?_,kk _ ?_⟩
    · rw [qd,b_]; exact fits (by simp; omega)
    · have:=hq [.tE (.nm y),.CC y (.nm y) "minus" (.nu 1)] _ (.inr (.inr (.inl ⟨y,hy,rfl,rfl⟩))) (by simp; omega)
      rw [push,xx] at this
      show q [.lst ((rs.map ax ++ [ax (.tE (.nm y))]) ++ [ax (.CC y (.nm y) "minus" (.nu 1))]),_] _
      rw [U']
      exact this
  · refine kk _ ?_
    have:=one (r:=.tE (.nm y)) (.inr (.inl ⟨.nm y,hy,rfl,rfl⟩)) (by simp; omega)
    rw [push] at this
    exact this
 refine ⟨⟨by decide,by decide,by decide⟩,by decide +kernel,.inr ⟨by decide,by decide⟩,by decide,by decide,?_⟩
 rw [hn]
 refine cJ (fun _=>?_) (fun _=>gB rfl ⟨⟨none,rfl⟩,fun _ h=>h⟩)
 refine cJ (fun h4=>?_) (fun _=>⟨⟨none,rfl⟩,fun _ h=>h⟩)
 have h4':bE.length < 4:=by
  have:((bE.map T.str).length:Int) < 4:=h4
  omega
 refine ⟨⟨by decide,by decide⟩,rfl,_,ys,rfl,R.div (by decide),Y,fun o ho=>⟨cz (by simp),EX,R0,?_⟩⟩
 have:=one (r:=.Bb o) (.inl ⟨o,ho,rfl,rfl⟩) (by simp; omega)
 rw [push] at this
 exact this
end
noncomputable abbrev il:Stmt:=top 52
theorem Jh {ys:List Str} {pl:Plan} {bE new cK} (h:kj ys pl bE new cK):new.length≤2:=by
 rcases h with ⟨o,_,rfl,rfl⟩ | ⟨o,_,rfl,rfl⟩ | ⟨y,_,rfl,rfl⟩ | ⟨s0,rfl,rfl,rfl⟩ | ⟨s0,x,rfl,rfl,rfl⟩ | ⟨r,_,rfl,rfl⟩ <;> simp
noncomputable def rZ (h:Int):List Nat:=[(h / 3 % 3).toNat,(h / 9 % 3).toNat,(h / 27 % 3).toNat]
theorem ph (h:Int) {k:Nat} (hk:k < 3):(rZ h).getD k 0≤2:=by
 have h1:h / 3 % 3 < 3:=lT _ (by decide)
 have h2:h / 9 % 3 < 3:=lT _ (by decide)
 have h3:h / 27 % 3 < 3:=lT _ (by decide)
 match k,hk with
 | 0,_=>show (h / 3 % 3).toNat≤2; omega
 | 1,_=>show (h / 9 % 3).toNat≤2; omega
 | 2,_=>show (h / 27 % 3).toNat≤2; omega
noncomputable def VQ (h:Int):List T:=[.int (h / 3 % 3),.int (h / 9 % 3),.int (h / 27 % 3)]
theorem EY (h:Int) {k:Nat} (hk:k < 3):jH (VQ h) (k:Int)=some (.int ((rZ h).getD k 0:Nat)):=by
 have h1:0≤h / 3 % 3:=kC _ (by decide)
 have h2:0≤h / 9 % 3:=kC _ (by decide)
 have h3:0≤h / 27 % 3:=kC _ (by decide)
 refine aq ?_
 match k,hk with
 | 0,_=>show some (T.int (h / 3 % 3))=some (T.int ((h / 3 % 3).toNat:Nat)); rw [Int.toNat_of_nonneg h1]
 | 1,_=>show some (T.int (h / 9 % 3))=some (T.int ((h / 9 % 3).toNat:Nat)); rw [Int.toNat_of_nonneg h2]
 | 2,_=>show some (T.int (h / 27 % 3))=some (T.int ((h / 27 % 3).toNat:Nat)); rw [Int.toNat_of_nonneg h3]
noncomputable def cL (ys:List Str) (h:Int) (m:Nat):Plan:=(List.range m).map fun k=>(ys.getD k Str.empty,ys.take ((rZ h).getD k 0))
theorem gj (ys h m):(cL ys h m).length=m:=by simp [cL]
theorem my {ys:List Str} {h:Int} {m k:Nat} (hk:k < m):(cL ys h m)[k]?=some (ys.getD k Str.empty,ys.take ((rZ h).getD k 0)):=by
 unfold cL
 rw [gw,Gv hk]; rfl
theorem BC {ys:List Str} (Y:Ys ys) {h:Int} {m:Nat} (hm:m≤3):tF ys (cL ys h m):=by
 intro k f ps e
 have hk:k < m:=by have:=(cn.mp e).1; rw [gj] at this; exact this
 rw [my hk] at e
 cases e
 have l3:=Y.l3
 have hz:=ph h (k:=k) (by omega)
 refine ⟨by rw [List.getD,fD (by omega:k < ys.length)]; rfl,0,(rZ h).getD k 0,hz,?_⟩
 refine Gy fun i=>?_
 rw [List.getElem?_take,gw]
 by_cases hi:i < (rZ h).getD k 0
 · rw [if_pos hi,Gv hi]
   have e:((0+(i:Int)) % 4).toNat=i:=by omega
   simp only [OX,e]
   rw [List.getD,fD (by omega:i < ys.length)]; rfl
 · rw [if_neg hi,xH (by rw [GY]; omega)]; rfl
noncomputable def EZ (ys:List Str) (pl:Plan):Prop:=∀ p∈pl,p.1∈ys∧∃ m,m≤2∧p.2=ys.take m
theorem BD {ys:List Str} (Y:Ys ys) {h:Int} {m:Nat} (hm:m≤3):EZ ys (cL ys h m):=fun p hp=>by
 obtain ⟨k,hk,rfl⟩:=uO.mp hp
 have CD:=Cp.mp hk
 have l3:=Y.l3
 refine ⟨?_,_,ph h (k:=k) (by omega),rfl⟩
 show ys.getD k Str.empty∈ys
 rw [List.getD,fD (by omega:k < ys.length)]
 exact Ll _
theorem wo {ys:List Str} {h:Int} {m:Nat} (hm:m≤3):∀ p∈cL ys h m,p.2.length≤4:=fun p hp=>by
 obtain ⟨k,hk,rfl⟩:=uO.mp hp
 have CD:=Cp.mp hk
 have:=ph h (k:=k) (by omega)
 rw [CM]; omega
noncomputable def E1 (ts:List T) (q:Rt→Prop):Prop:=∃ (ns:List Int) (ys:List Str) (h:Int),ts=[.lst (ns.map .int),eC ys,.int h]∧ns.length≤63∧Jd h∧Ys ys ∧
 ∀ (n:Nat) (pl:Plan) (rs:List Rw),n≤1→1≤pl.length→pl.length≤3→tF ys pl→EZ ys pl→Pre ys pl pl.length rs→rs.length≤18+2 * ns.length→q (.fr (.lst ((List.replicate n Rw.skip ++ rs).map ax)))
theorem Ji {α β:Type} (f:α→β) (l:List α) (a b:Nat) (ha:a≤l.length) (hb:b≤l.length):gA (l.map f) (some (a:Int)) (some (b:Int))=((l.drop a).take (b - a)).map f:=by
 unfold gA
 rw [b_,HT.gE,HT.gE,Nat.min_eq_left ha,Nat.min_eq_left hb,← List.map_drop,← List.map_take]
noncomputable def IP (ns:List Int) (ys:List Str) (h:Int) (m0 sh n1:Nat) (k:Nat) (ρ:En):Prop:=∃ b7 b8 b9 Yh BE rt rs,ρ=[some (.lst (ns.map .int),false),some (eC ys,false),some (.int h,false),some (.int (1+(m0:Int)),false),some (.lst (VQ h),false),some (.int (sh:Int),false),some (.lst rt,true),b7,b8,b9,Yh,BE]∧rt=(List.replicate n1 Rw.skip ++ rs).map ax∧Pre ys (cL ys h (1+m0)) k rs∧rs.length≤6 * k+2 * (if k=1+m0 then ns.length else k * sh)
noncomputable def Yi (ns:List Int) (ys:List Str) (h:Int) (m0 sh n1:Nat):FS:=fun d ρ=>∃ (k L:Nat) (rs:List Rw) (BE:Option (T×Bool)),k < 1+m0∧L≤ns.length∧k * sh≤L∧(L=if k=m0 then ns.length else (k+1) * sh)∧Pre ys (cL ys h (1+m0)) k rs∧rs.length≤6 * k+2 * (k * sh) ∧
 ρ=[some (.lst (ns.map .int),false),some (eC ys,false),some (.int h,false),some (.int (1+(m0:Int)),false),some (.lst (VQ h),false),some (.int (sh:Int),false),some (.lst ((List.replicate n1 Rw.skip ++ rs ++ [Rw.df (ys.getD k Str.empty) (ys.take ((rZ h).getD k 0))]).map ax),true),some (.int (k:Int),false),some (iM ((cL ys h (1+m0)).drop (k+1)),false),some (.lst [],true),some (.int (L:Int),false),BE]∧∀ ρ',IP ns ys h m0 sh n1 (k+1) ρ'→d.nx ρ'
section
variable {P:Program} {w:World} {K:PySem.W.Frag} {mg:Str→Option Value} {base:Heap}
noncomputable abbrev eF:List Str:=["_law_cells","_law_names_here","_law_head","_law_many","_law_sizes","_law_share","_law_rows","_law_k","_law_there","_law_blocks","_law_last","_law_cell"]
theorem pj:aN eF ["_law_cells","_law_names_here","_law_head"] (ak il):=⟨rfl,rfl,rfl,by decide +kernel,rfl,by decide +kernel,by decide +kernel⟩
theorem qI:(eF ++ (["_law_j"]:List Str)).Nodup:=by decide +kernel
theorem yB {f:Addr} {fd:FuncData} (D:Df K mg "_law_program" il ["_law_cells","_law_names_here","_law_head"] f fd) (M:Mg mg) (R3:bY P w K mg base "_law_put" ["_law_rows","_law_blocks","_law_cell","_law_names_here","_law_there"] 5 (sR K [true,true,false,false,false] MB)) (eD:bY P w K mg base "_law_operand" ["_law_cell","_law_names_here"] 2 (bQ K 2 v8)):bY P w K mg base "_law_program" ["_law_cells","_law_names_here","_law_head"] 6 (bQ K 3 E1):=by
 obtain ⟨acw,Yj,R4,k_put,R5,R6⟩:=R3
 obtain ⟨mx,ko,cT,cU,cV,cW⟩:=eD
 refine D.i5 (jJ D.F pj rfl fun bO A outer s H E Ox hr ts q hG=>?_)
 have nd:=pj.nd
 have hu:=bA.fu hr
 have np:∀ {i:Nat},a9 ⟨H,[],Ox⟩ i:=n5
 obtain ⟨ns,ys,h,rfl,W7,R,Y,hq⟩:=hG
 obtain ⟨m0,Yk⟩:=nH (kC h (show (3:Int)≠0 by decide))
 have hm0:m0 < 3:=by have:=lT h (show (0:Int) < 3 by decide); omega
 obtain ⟨n1,en1⟩:=nH (kC (h / 81) (show (2:Int)≠0 by decide))
 have hn1:n1 < 2:=by have:=lT (h / 81) (show (0:Int) < 2 by decide); omega
 have eN:((ns.map T.int).length:Int)=(ns.length:Int):=by rw [b_]
 have l3:=Y.l3
 obtain ⟨sh,esh⟩:∃ sh:Nat,sh=ns.length / (1+m0):=⟨_,rfl⟩
 have acA:(1+m0) * sh≤ns.length:=by rw [esh]; exact Nat.mul_div_le _ _
 refine ⟨_,(ag (ba (i:=3) nd rfl (Or.inl rfl) (VP.vx (cj (VP.vr af) (VP.vr (a8 (aa 2) (VP.vr af))))) np)
   (ag (ba (i:=4) nd rfl (Or.inr rfl) (VP.vx (cg (ae (VP.ve (a8 (VP.vr (aZ (aa 2) (VP.vr af))) (VP.vr af))) (ae (VP.ve (a8 (VP.vr (aZ (aa 2) (VP.vr af))) (VP.vr af))) (ae (VP.ve (a8 (VP.vr (aZ (aa 2) (VP.vr af))) (VP.vr af))) ai))))) np)
   (ag (ba (i:=5) nd rfl (Or.inl rfl) (VP.vx (aZ (VP.vr (aG aI aJ (by rfl) M.len jd (ar (aa 0) az))) (aa 3))) np)
   (ag (c6 (i:=6) nd rfl (Or.inl rfl) (VP.vx (jt (cg (ae (VP.ve (bw (ae (VP.ve ay) ai))) ai)) (VP.vr (a8 (VP.vr (aZ (aa 2) (VP.vr af))) (VP.vr af))))) np)
   (ag (dM zk rfl (d8 (by rfl) M.range (aa 3)) (aV (i:=7) nd rfl (Or.inl rfl) np)
     (ag (bp (fZ 6 xF xG bx br (ae (VP.ve (bw (ae (VP.ve ay) (ae (VP.ve (aS (aa 1) (aa 7))) (ae (VP.ve (hW jX m8 (by rfl) M.tuple n6 (ar (VP.vr (fY (aa 1) kP (fH (VP.vr (aS (aa 4) (aa 7)))))) az))) ai))))) ai)))
     (ag (Ih (i:=8) (ts:=["_law_j"]) nd rfl (Or.inl rfl) rfl (by rfl) (A2 (by rfl) M.range (VP.vr (cj (aa 7) (VP.vr af))) (aa 3)) (fun _ _ _ _ _ _=>(aV (i:=12) qI rfl (Or.inl rfl) np)) (fun _ _ _ _ _ _=>di) (fun _ _ _ _ _ _=>(VP.ve (bw (ae (VP.ve (aS (aa 1) (aa 12))) (ae (VP.ve (aS (aa 4) (aa 12))) ai))))) np)
     (ag (c6 (i:=9) nd rfl (Or.inl rfl) (VP.vx (cg ai)) np)
     (ag (ba (i:=10) nd rfl (Or.inl rfl) (VP.vx (Ko (bB hu (aa 7) (VP.vr (yd (aa 3) (VP.vr af)))) (aG aI aJ (by rfl) M.len jd (ar (aa 0) az)) (iH (VP.vr (cj (aa 7) (VP.vr af))) (aa 5)))) np)
     (nL.weak (u:=(Yi ns ys h m0 sh n1)) (ag (dM zk rfl (jo (VP.ve (fY (aa 0) (fH (VP.vr (iH (aa 7) (aa 5)))) (fH (aa 10))))) (aV (i:=11) nd rfl (Or.inl rfl) np)
       (ah (bp (vt R6 (hr.mono (by decide)) (by rfl) R4 k_put R5 (sT 6 (sT 9 (kR (aj 11) (kR (aj 1) (kR (aj 8) zM)))))))))
     (ag (bp (Jc 6 (jt (cg (ae (VP.ve (bw (ae (VP.ve ay) ai))) ai)) (VP.vr (aG aI aJ (by rfl) M.len jd (ar (aa 9) az))))))
     (ah (bp (fZ 6 xF xG bx br (ae (VP.ve (bw (ae (VP.ve ay) (ae (VP.ve (aK cW (hr.mono (by decide)) (by rfl) cT cU cV (ae (VP.ve (aZ (aa 2) (VP.vr (cj (VP.vr af) (aa 7))))) (ae (aj 1) ai)))) ai)))) ai)))))) ?w1))))))
   (ah (aD (iI 6 np)))))))),fun _=>?main⟩
 case w1 =>
  rintro d ρ ⟨k,L,rs,BE,hk,hL,hkL,eL,iC,hlen,rfl,kk⟩
  have hpk:=my (ys:=ys) (h:=h) hk
  have hd3:((cL ys h (1+m0)).drop (k+1)).length≤3:=by rw [PU,gj]; omega
  have hd4:∀ p∈(cL ys h (1+m0)).drop (k+1),p.2.length≤4:=fun p hp=>wo (by omega) p (List.mem_of_mem_drop hp)
  have Yl:k * sh≤ns.length:=by omega
  have Jj:gA (ns.map T.int) (some ((k:Int) * (sh:Int))) (some (L:Int))=((ns.drop (k * sh)).take (L - k * sh)).map T.int:=by
   have e3:(k:Int) * (sh:Int)=((k * sh:Nat):Int):=by push_cast; rfl
   rw [e3]; exact Ji T.int ns _ _ Yl hL
  generalize Ym:(ns.drop (k * sh)).take (L - k * sh)=ms at Jj
  have Yn:ms.length=L - k * sh:=by rw [← Ym,CM,PU]; omega
  refine ⟨.inl ⟨by show -(2 ^ 64:Int) < (k:Int); omega,by show (k:Int) < (2 ^ 64:Int); omega⟩,?_⟩
  show oM (gA (ns.map T.int) (some ((k:Int) * (sh:Int))) (some (L:Int))) _ _ _ _
  rw [Jj]
  refine kT (fun i ρ=>∃ BE rt st body bE,ρ=[some (.lst (ns.map .int),false),some (eC ys,false),some (.int h,false),some (.int (1+(m0:Int)),false),some (.lst (VQ h),false),some (.int (sh:Int),false),some (.lst rt,true),some (.int (k:Int),false),some (iM ((cL ys h (1+m0)).drop (k+1)),false),some (.lst st,true),some (.int (L:Int),false),BE]∧rt=(List.replicate n1 Rw.skip ++ rs ++ [Rw.df (ys.getD k Str.empty) (ys.take ((rZ h).getD k 0))] ++ body).map ax∧st=bE.map .str∧Body ys ((cL ys h (1+m0)).drop (k+1)) bE body∧body.length≤2 * i∧bE.length≤4)
   ⟨BE,_,_,[],[],rfl,by rw [xw],rfl,.nil,by simp,by simp⟩ ?_ ?_
  · rintro i z ρ hi ⟨BE,_,_,body,bE,rfl,rfl,rfl,hB,hb,K1⟩
    have hil:i < ms.length:=(cn.mp hi).1
    have Vo:body.length≤3 * 63:=by omega
    refine ⟨_,bE,z,ys,_,rfl,Y,hd3,hd4,?_,K1,fun new cK R7 h4=>?_⟩
    · simp only [qd,xt,Ax,PX]
      have:2 * (k * sh)≤2 * 63:=by omega
      omega
    · have hl:=Jh R7
      refine ⟨_,_,_,body ++ new,cK,rfl,by rw [← U'],rfl,.step hB R7,?_,h4⟩
      rw [qd]; omega
  · rintro ρ ⟨BE,_,_,body,bE,rfl,rfl,rfl,hB,hb,K1⟩
    have R1:((bE.map T.str).length:Int)=(bE.length:Int):=by rw [b_]
    rw [Yn] at hb
    refine ⟨cz (by simp),cz (by simp),by omega,by omega,by rw [sizeLine_eq]; simp; omega,?_⟩
    have eE:(List.replicate ((bE.map T.str).length:Int).toNat [(Rt.vw (T.tup [(Rt.vw (T.str "end")).t])).t]).flatten=(List.replicate bE.length Rw.fin).map ax:=by
     rw [R1,lU,U_]
     generalize bE.length=n
     induction n with
     | zero=>rfl
     | succ n ih=>rw [ot,CK,ih,ot]; rfl
    rw [eE]
    have hrl:(List.replicate n1 Rw.skip ++ rs ++ [Rw.df (ys.getD k Str.empty) (ys.take ((rZ h).getD k 0))] ++ body).length≤700:=by
     simp only [qd,xt,Ax,PX]
     omega
    refine ⟨by rw [b_,b_,xt,sizeLine_eq]; omega,?_⟩
    refine ⟨⟨by show (0:Int) < 162+(k:Int); omega,by show 162+(k:Int) < 1073741824; omega⟩,rfl,_,ys,rfl,R.div (by omega),Y,fun o ho=>⟨cz (by simp),?_,kk _ ?_⟩⟩
    · rw [qd,b_,b_,xt]; exact fits (by omega)
    · refine ⟨_,_,_,_,_,_,rs ++ (Rw.df (ys.getD k Str.empty) (ys.take ((rZ h).getD k 0)) :: (body ++ (List.replicate bE.length Rw.fin ++ (Rw.give o :: [])))),rfl,?_,.succ iC hpk hB ho (.inl rfl),?_⟩
      · simp only [xx,g9,Cs,U',Vb,List.nil_append]
        rfl
      · simp only [qd,Ax,xt,PX]
        have acB:2 * (k * sh)+2 * (L - k * sh)≤2 * (if k+1=1+m0 then ns.length else (k+1) * sh):=by
         by_cases R8:k=m0
         · rw [if_pos (by omega)]; omega
         · rw [if_neg (by omega)]
           rw [if_neg R8] at eL
           omega
        omega
 case main =>
 refine ⟨by decide,?_⟩
 rw [Yk]
 refine ⟨⟨by decide,by decide⟩,by decide,⟨by decide,by decide⟩,by decide,⟨by decide,by decide⟩,by decide,cz (by simp),⟨by show (0:Int) < 1+(m0:Int); omega,by show 1+(m0:Int) < 1073741824; omega⟩,?_⟩
 have NK:((ns.map T.int).length:Int) / (1+(m0:Int))=(sh:Int):=by
  have e1:(1+(m0:Int))=((1+m0:Nat):Int):=by omega
  rw [eN,esh,e1,Int.natCast_ediv]
 refine ⟨cz (by simp),cz (by simp),⟨by decide,by decide⟩,by decide,?_⟩
 rw [en1,NK]
 refine ⟨by omega,by omega,by rw [sizeLine_eq]; simp; omega,?_⟩
 rw [lU]
 refine ⟨by omega,by omega,?_⟩
 have eM:(1+(m0:Int)).toNat=1+m0:=by omega
 rw [eM]
 have eR:(List.replicate n1 [(Rt.vw (T.tup [(Rt.vw (T.str "skip")).t])).t]).flatten=(List.replicate n1 Rw.skip).map ax:=by
  rw [U_]
  clear hn1 en1
  induction n1 with
  | zero=>rfl
  | succ n ih=>rw [ot,CK,ih,ot]; rfl
 rw [eR]
 refine ki (IP ns ys h m0 sh n1)
  ⟨_,_,_,_,_,_,[],rfl,by rw [xw],.zero,by simp⟩ ?_ ?_
 · rintro k ρ hk ⟨b7,b8,b9,Yh,BE,_,rs,rfl,rfl,iC,hlen⟩
   rw [O5]
   rw [if_neg (by omega)] at hlen
   have hk3:k < 3:=by omega
   have hz:=ph h hk3
   have hks:k * sh+sh≤ns.length:=by
    have:(k+1) * sh≤(1+m0) * sh:=Nat.mul_le_mul_right _ (by omega)
    have e:(k+1) * sh=k * sh+sh:=by rw [Nat.add_mul,Nat.one_mul]
    omega
   have hyk:k < ys.length:=by omega
   have ek:jH (ys.map T.str) (k:Int)=some (.str (ys.getD k Str.empty)):=aq (by rw [gw,fD hyk,List.getD,fD hyk]; rfl)
   have Yd:=EY h hk3
   have Jj:gA (ys.map T.str) none (some (((rZ h).getD k 0:Nat):Int))=(ys.take ((rZ h).getD k 0)).map T.str:=yz T.str ys _ (by omega)
   have hpk:=my (ys:=ys) (h:=h) hk
   have Yo:((List.replicate n1 Rw.skip ++ rs).map ax).length < sizeLine:=by rw [b_,qd,xt]; exact fits (by omega)
   refine ⟨_,ek,_,Yd,cz (by simp),Yo,rfl,⟨by omega,by omega,by omega,by omega⟩,by rw [dv]; exact cz (by omega),?_⟩
   have eT:(1+(m0:Int) - ((k:Int)+1)).toNat=m0 - k:=by omega
   rw [eT]
   refine gM (u:=fun i=>.tup [.str (ys.getD (k+1+i) Str.empty),.int ((ys.take ((rZ h).getD (k+1+i) 0)).length:Nat)]) (fun i hi r hr=>?_) ?_
   · have Pl:k+1+i < 3:=by omega
     have e1:((k:Int)+1+(i:Int))=((k+1+i:Nat):Int):=by omega
     rw [e1]
     have hy2:k+1+i < ys.length:=by omega
     have ek2:jH (ys.map T.str) ((k+1+i:Nat):Int)=some (.str (ys.getD (k+1+i) Str.empty)):=aq (by rw [gw,fD hy2,List.getD,fD hy2]; rfl)
     have hz2:=ph h Pl
     have el:(ys.take ((rZ h).getD (k+1+i) 0)).length=(rZ h).getD (k+1+i) 0:=by rw [CM]; omega
     rw [el] at hr
     exact ⟨_,ek2,_,EY h Pl,cz (by simp),hr⟩
   · have eTh:((List.range (m0 - k)).map fun i=>T.tup [.str (ys.getD (k+1+i) Str.empty),.int ((ys.take ((rZ h).getD (k+1+i) 0)).length:Nat)])=((cL ys h (1+m0)).drop (k+1)).map fun p=>T.tup [.str p.1,.int (p.2.length:Int)]:=by
      unfold cL
      refine Gy fun i=>?_
      rw [gw,gw,List.getElem?_drop,gw]
      by_cases hi:i < m0 - k
      · rw [Gv hi,Gv (by omega)]; rfl
      · rw [xH (by rw [GY]; omega),xH (by rw [GY]; omega)]; rfl
     have Yp:(List.replicate n1 Rw.skip ++ rs).map ax ++ [T.tup [T.str "def",T.str (ys.getD k Str.empty),T.tup (gA (ys.map T.str) none (some (((rZ h).getD k 0:Nat):Int)))]]=(List.replicate n1 Rw.skip ++ rs ++ [Rw.df (ys.getD k Str.empty) (ys.take ((rZ h).getD k 0))]).map ax:=by
      rw [xx (l₂:=[_]),Jj]; rfl
     show MA _ _ _ [_,_,_,_,_,_,some (.lst ((List.replicate n1 Rw.skip ++ rs).map ax ++ [T.tup [T.str "def",T.str (ys.getD k Str.empty),T.tup (gA (ys.map T.str) none (some (((rZ h).getD k 0:Nat):Int)))]]),true),_,some (.lst ((List.range (m0 - k)).map fun i=>T.tup [.str (ys.getD (k+1+i) Str.empty),.int ((ys.take ((rZ h).getD (k+1+i) 0)).length:Nat)]),false),_,_,_]
     rw [eTh,Yp]
     refine ⟨cz (by simp),?_⟩
     refine cJ (fun R8=>?_) (fun R8=>?_)
     · have Yq:(k:Int)=1+(m0:Int) - 1:=R8
       refine ⟨k,ns.length,rs,BE,hk,cA _,by omega,by rw [if_pos (by omega)],iC,hlen,?_,fun ρ' h=>h⟩
       rw [← eN]; rfl
     · have Yq:¬ ((k:Int)=1+(m0:Int) - 1):=R8
       refine ⟨.inl ⟨by show -(2 ^ 64:Int) < (k:Int)+1; omega,by show (k:Int)+1 < (2 ^ 64:Int); omega⟩,k,(k+1) * sh,rs,BE,hk,by rw [Nat.add_mul,Nat.one_mul]; omega,Nat.mul_le_mul_right _ (by omega),by rw [if_neg (by omega)],iC,hlen,?_,fun ρ' h=>h⟩
       have e3:(((k+1) * sh:Nat):Int)=((k:Int)+1) * (sh:Int):=by push_cast; rfl
       rw [e3]; rfl
 · rintro ρ ⟨b7,b8,b9,Yh,BE,_,rs,rfl,rfl,iC,hlen⟩
   rw [if_pos rfl] at hlen
   refine hq n1 (cL ys h (1+m0)) rs (by omega) (by rw [gj]; omega) (by rw [gj]; omega) (BC Y (by omega)) (BD Y (by omega)) (by rw [gj]; exact iC) (by omega)
end
end bK
namespace Lay
open PySem L2 VT Gen K5
noncomputable def Aa (l:List (Str×Nat)):T:=.dk (l.map fun p=>(Sum.inr p.1:Key)) (l.map fun p=>T.int (p.2:Int))
theorem mz (l:List (Str×Nat)) (f:Str):gg (l.map fun p=>(Sum.inr p.1:Key)) (l.map fun p=>T.int (p.2:Int)) (Sum.inr f)=(ng l f).map fun i=>T.int (i:Int):=by
 induction l with
 | nil=>rfl
 | cons p l ih =>
   obtain ⟨k,i⟩:=p
   simp only [g9,gg,ng]
   by_cases h:k=f
   · rw [if_pos h,if_pos (by rw [h])]; rfl
   · rw [if_neg h,if_neg (fun z=>h (Sum.inr.inj z))]; exact ih
theorem gk (rs:List Rw):∀ n,(aH rs n).length≤n
 | 0=>cA _
 | n+1=>by
   have:=gk rs n
   simp only [aH]
   split
   · rename_i r _
     cases r <;> simp only [Bi] <;> first
      | omega
      | (split <;> simp <;> omega)
   · omega
noncomputable def k9:Rw→Bool
 | .df _ _=>true
 | _=>false
noncomputable def cp (rs:List Rw):Option Nat:=rs.findIdx? k9
theorem r6 (rs:List Rw):∀ n,∀ p∈aH rs n,p.2 < n∧∃ ps,rs[p.2]?=some (.df p.1 ps)
 | 0,p,h=>nomatch h
 | n+1,p,h=>by
   have old:p∈aH rs n→p.2 < n+1∧∃ ps,rs[p.2]?=some (.df p.1 ps):=fun h=>by
    have:=r6 rs n p h
    exact ⟨by omega,this.2⟩
   simp only [aH] at h
   split at h
   · rename_i r hr
     cases r with
     | df g ps =>
       simp only [Bi] at h
       split at h
       · exact old h
       · rcases g_.mp h with z | z
         · exact old z
         · rw [ou] at z
           subst z
           exact ⟨xv _,ps,hr⟩
     | _=>exact old h
   · exact old h
theorem gN {rs:List Rw} {i:Nat} (h:∀ j,j < i→∀ f ps,rs[j]?≠some (.df f ps)):∀ n≤i,aH rs n=[]
 | 0,_=>rfl
 | n+1,hn=>by
   simp only [aH]
   split
   · rename_i r hr
     rw [gN h n (by omega)]
     cases r with
     | df g ps=>exact absurd hr (h n (by omega) g ps)
     | _=>rfl
   · exact gN h n (by omega)
theorem jy {rs:List Rw} {i:Nat} {g:Str} {ps:List Str} (hi:rs[i]?=some (.df g ps)) (h:∀ j,j < i→∀ f ps,rs[j]?≠some (.df f ps)):∀ n,i < n→∃ l,aH rs n=(g,i) :: l
 | 0,hn=>absurd hn (Nat.not_lt_zero _)
 | n+1,hn=>by
   by_cases e:i=n
   · subst e
     refine ⟨[],?_⟩
     simp only [aH,hi,Bi]
     rw [gN h i (cA _)]
     rfl
   · obtain ⟨l,hl⟩:=jy hi h n (by omega)
     simp only [aH]
     rw [hl]
     split
     · rename_i r _
       cases r with
       | df f qs =>
         simp only [Bi]
         split
         · exact ⟨l,rfl⟩
         · exact ⟨l ++ [(f,n)],rfl⟩
       | _=>exact ⟨l,rfl⟩
     · exact ⟨l,rfl⟩
theorem tY {r:Rw} (h:k9 r=true):∃ f ps,r = .df f ps:=by
 cases r with
 | df f ps=>exact ⟨f,ps,rfl⟩
 | _=>cases h
theorem bI {rs:List Rw} {i:Nat} (h:cp rs=some i):(∃ f ps,rs[i]?=some (.df f ps))∧∀ j,j < i→∀ f ps,rs[j]?≠some (.df f ps):=by
 unfold cp at h
 rw [List.findIdx?_eq_some_iff_getElem] at h
 obtain ⟨hl,h1,h2⟩:=h
 obtain ⟨f,ps,e⟩:=tY h1
 refine ⟨⟨f,ps,by rw [fD hl,e]⟩,fun j hj f ps e=>?_⟩
 obtain ⟨GP,ej⟩:=cn.mp e
 have:=h2 j hj
 rw [ej] at this
 exact this rfl
theorem mB {rs:List Rw} (h:cp rs=none):∀ (j:Nat) f ps,rs[j]?≠some (Rw.df f ps):=by
 unfold cp at h
 rw [List.findIdx?_eq_none_iff] at h
 intro j f ps e
 have:=h _ (j7 e)
 cases this
theorem yC {rs:List Rw} (h:cp rs=none):aH rs rs.length=[]:=gN (i:=rs.length) (fun j _=>mB h j) _ (cA _)
theorem E2 {rs:List Rw} {m:Int} (h1:m∈(aH rs rs.length).map fun p=>(p.2:Int)) (h2:∀ i∈(aH rs rs.length).map fun p=>(p.2:Int),m≤i):T.int m=oT (cp rs):=by
 cases e:cp rs with
 | none=>rw [yC e] at h1; cases h1
 | some i =>
   obtain ⟨⟨g,ps,hi⟩,hm⟩:=bI e
   obtain ⟨l,hl⟩:=jy hi hm rs.length (cn.mp hi).1
   obtain ⟨p,hp,rfl⟩:=uO.mp h1
   obtain ⟨_,qs,hq⟩:=r6 rs _ p hp
   have le1:(p.2:Int)≤(i:Int):=h2 _ (uO.mpr ⟨(g,i),by rw [hl]; exact iw,rfl⟩)
   have le2:¬ p.2 < i:=fun z=>hm _ z _ _ hq
   have:p.2=i:=by omega
   rw [this]
   rfl
noncomputable def Jk (rs:List Rw):List T:=(List.range rs.length).map fun i=>oT (ni (bq rs) i)
noncomputable def K2 (rs:List Rw):List T:=(List.range rs.length).map fun i=>oT (endsAt (bq rs) rs.length i)
noncomputable def R9 (rs:List Rw):List T:=yu (bq rs) rs.length rs.length
noncomputable def Jl (rs:List Rw):List T:=(List.range rs.length).map fun i=>oT (kA (bq rs) i)
theorem E3 (rs:List Rw):Ej rs=[.lst (Jk rs),.lst (K2 rs),.lst (R9 rs),.lst (Jl rs)]:=rfl
noncomputable def BF (C:Addr) (rs:List Rw):T:=.ins C ["program","heads","ends","elses","homes","defs","main"] [.lst (rs.map ax),.lst (Jk rs),.lst (K2 rs),.lst (R9 rs),.lst (Jl rs),Aa (aH rs rs.length),oT (cp rs)]
section
variable {rs:List Rw} {i:Nat}
theorem mD {r:Rw} (h:rs[i]?=some r):jH (rs.map ax) (i:Int)=some (ax r):=aq (by rw [gw,h]; rfl)
theorem NL (h:i < rs.length):jH (Jk rs) (i:Int)=some (oT (ni (bq rs) i)):=aq (by unfold Jk; rw [gw,Gv h]; rfl)
theorem NM (h:i < rs.length):jH (Jl rs) (i:Int)=some (oT (kA (bq rs) i)):=aq (by unfold Jl; rw [gw,Gv h]; rfl)
end
noncomputable def top (i:Nat):Stmt:=PySem.Challenge.pw_slicewise_k51_all_and_none.main.body.getD i (.Pass ⟨0,0,0,0⟩)
noncomputable abbrev ck:Stmt:=top 34
structure MgF (mg:Str→Option Value):Prop where
 enumerate:mg "enumerate" = none
noncomputable def pk (ts:List T) (q:Rt→Prop):Prop:=∃ rs:List Rw,ts=[.lst (rs.map ax)]∧rs.length≤100∧q (.fr (Aa (aH rs rs.length)))
section
variable {P:Program} {w:World} {K:PySem.W.Frag} {mg:Str→Option Value} {base:Heap}
noncomputable abbrev iN:List Str:=["program","firsts","place","row"]
theorem dc:aN iN ["program"] (ak ck):=⟨rfl,rfl,rfl,by decide +kernel,rfl,by decide +kernel,by decide +kernel⟩
theorem g6 {f:Addr} {fd:FuncData} (D:Df K mg "first_defs" ck ["program"] f fd) (M:MgF mg):bY P w K mg base "first_defs" ["program"] 1 (bQ K 1 pk):=by
 refine D.i5 (jJ D.F dc rfl fun bO A outer s H E Ox hr ts q hG=>?_)
 have nd:=dc.nd
 have hu:=bA.fu hr
 have np:∀ {i:Nat},a9 ⟨H,[],Ox⟩ i:=n5
 refine ⟨_,(ag (c6 (i:=1) nd rfl (Or.inl rfl) (VP.vx zZ) np)
   (ag (dM zk rfl (gJ (by rfl) M.enumerate (aj 0)) (f_ (n:=2) rfl (bc (aV (i:=2) nd rfl (Or.inl rfl) np) (bc (aV (i:=3) nd rfl (Or.inl rfl) np) dJ)))
     (ah (aY (bB hu (VP.vr (aS (aa 3) (VP.vr af))) (VP.vr ay))
       (ah (bp (z7 1 (VP.ve (aS (aa 3) (VP.vr af))) (aj 2))))
       aB)))
   (ah (aD (iI 1 np))))),fun _=>?_⟩
 obtain ⟨rs,rfl,hn,hq⟩:=hG
 refine eB (fun i ρ=>∃ b2 b3,ρ=[some (.lst (rs.map ax),false),some (Aa (aH rs i),true),b2,b3]) ⟨_,_,rfl⟩ ?_ ?_
 · rintro i r ρ hr ⟨b2,b3,rfl⟩
   have hi:=(cn.mp hr).1
   have hlen:((aH rs i).map fun p=>T.int (p.2:Int)).length < 16777216:=by
    rw [b_]; have:=gk rs i; omega
   have es:aH rs (i+1)=Bi (aH rs i) i r:=by simp only [aH,hr]
   cases r with
   | df g ps =>
     refine ⟨rfl,rfl,_,aq (j:=0) rfl,?_⟩
     refine ⟨_,aq (j:=1) rfl,hlen,?_⟩
     rw [es]
     simp only [Bi]
     rw [mz]
     cases ha:ng (aH rs i) g with
     | some j=>exact ⟨_,_,rfl⟩
     | none =>
       show ∃ b2 b3,_=[_,some (Aa (aH rs i ++ [(g,i)]),true),b2,b3]
       have ef:Aa (aH rs i ++ [(g,i)]) = .dk (((aH rs i).map fun p=>(Sum.inr p.1:Key)) ++ [Sum.inr g]) (((aH rs i).map fun p=>T.int (p.2:Int)) ++ [T.int (i:Int)]):=by
        simp only [Aa,xx,g9,Cs]
       rw [ef]
       exact ⟨_,_,rfl⟩
   | _ =>
     refine ⟨rfl,rfl,_,aq (j:=0) rfl,?_⟩
     rw [es]
     exact ⟨_,_,rfl⟩
 · rintro ρ ⟨b2,b3,rfl⟩
   exact hq
end
end Lay
namespace Pp
open PySem L2 VT Gen K5
noncomputable def top (i:Nat):Stmt:=PySem.Challenge.pw_slicewise_k51_all_and_none.main.body.getD i (.Pass ⟨0,0,0,0⟩)
noncomputable abbrev jO:Stmt:=top 36
structure Mg5 (K:PySem.W.Frag) (mg:Str→Option Value):Prop where
 len:mg "len" = none
 range:mg "range" = none
 enumerate:mg "enumerate" = none
 isinstance:mg "isinstance" = none
 int:mg "int" = none
 bool:mg "bool" = none
 tuple:mg "tuple" = none
 list:mg "list" = none
 zip:mg "zip" = none
 CL:∃ a,mg "CLOSERS" = some (.ref a)∧∀ H,dZ K H a [.str "give",.str "end"]
 OP:∃ a,mg "OPENERS" = some (.ref a)∧∀ H,dZ K H a [.str "def",.str "if",.str "while"]
noncomputable def E4 (ts:List T) (q:List T→Prop):Prop:=∃ rs:List Rw,ts=[.lst (rs.map ax)]∧rQ rs∧rs.length≤100∧q (Ej rs)
theorem kL {l:List T} {t:T} (h:l.getLast?=some t):jH l (-1)=some t:=by
 have hl:0 < l.length:=by cases l <;> simp_all
 rw [UY] at h
 unfold jH qk
 rw [if_neg (by decide),if_pos (by omega)]
 have e:(-1+(l.length:Int)).toNat=l.length - 1:=by omega
 rw [e]
 exact h
theorem E5 (kd:Nat→Kd):∀ k,(st kd k).length≤k
 | 0=>cA _
 | k+1=>by
   have:=E5 kd k
   simp only [st]
   split <;> split <;> simp <;> omega
theorem cz {n:Nat} (h:n≤1000):n≤sizeLine:=small h
theorem Jm (n:Nat) (t:T):(List.replicate n [t]).flatten=List.replicate n t:=by
 induction n with
 | zero=>rfl
 | succ n ih=>rw [ot,CK,ih]; rfl
noncomputable def E6 (rs:List Rw) (h e l o s:List T) (k:Nat) (r:Rw):En:=[some (.lst (rs.map ax),false),some (.lst h,true),some (.lst e,true),some (.lst l,true),some (.lst o,true),some (.lst s,true),some (.int (k:Int),false),some (ax r,false)]
noncomputable def tZ (rs:List Rw) (k:Nat):List T:=(st (bq rs) k).map fun (j:Nat)=>T.int (j:Int)
noncomputable def R_ (rs:List Rw) (k:Nat) (ρ:En):Prop:=∃ b6 b7 h e l o s,ρ=[some (.lst (rs.map ax),false),some (.lst h,true),some (.lst e,true),some (.lst l,true),some (.lst o,true),some (.lst s,true),b6,b7]∧h=tab (ni (bq rs)) rs.length k∧e=jb (endsAt (bq rs) rs.length) rs.length k∧l=yu (bq rs) rs.length k∧o=tab (kA (bq rs)) rs.length k∧s=tZ rs k
noncomputable def Jn (rs:List Rw) (M:Nat→Rw→List T→List T→List T→List T→List T→Prop):FS:=fun d ρ=>∃ k r h e l o s,rs[k]?=some r∧ρ=E6 rs h e l o s k r∧h=tab (ni (bq rs)) rs.length (k+1)∧M k r h e l o s∧∀ ρ',R_ rs (k+1) ρ'→d.nx ρ'
noncomputable def M1 (rs:List Rw) (k:Nat) (r:Rw) (h e l o s:List T):Prop:=e=jb (endsAt (bq rs) rs.length) rs.length k∧l=yu (bq rs) rs.length k∧s=tZ rs k∧o.length=rs.length∧((au r).df=true→o.set k (.int (k:Int))=tab (kA (bq rs)) rs.length (k+1))∧((au r).df=false→o=tab (kA (bq rs)) rs.length (k+1))
noncomputable def M2 (rs:List Rw) (k:Nat) (r:Rw) (h e l o s:List T):Prop:=e=jb (endsAt (bq rs) rs.length) rs.length k∧l=yu (bq rs) rs.length k∧s=tZ rs k∧o=tab (kA (bq rs)) rs.length (k+1)
noncomputable def M3 (rs:List Rw) (k:Nat) (r:Rw) (h e l o s:List T):Prop:=e=jb (endsAt (bq rs) rs.length) rs.length k∧l=yu (bq rs) rs.length (k+1)∧s=tZ rs k∧o=tab (kA (bq rs)) rs.length (k+1)
noncomputable def M4 (rs:List Rw) (k:Nat) (r:Rw) (h e l o s:List T):Prop:=e=jb (endsAt (bq rs) rs.length) rs.length (k+1)∧l=yu (bq rs) rs.length (k+1)∧o=tab (kA (bq rs)) rs.length (k+1)∧s=(if (au r).cl=true then (tZ rs k).dropLast else tZ rs k)
theorem pq {n k:Nat} (h:k < n):qk n (k:Int)=some k:=by
 unfold qk
 rw [if_pos (by omega),if_pos (by omega),lU]
theorem t4 {rs:List Rw} {k:Nat} (h:st (bq rs) k≠[]):∃ j,(st (bq rs) k).getLast?=some j∧jH (tZ rs k) (-1)=some (.int (j:Int)):=by
 obtain ⟨j,hj⟩:∃ j,(st (bq rs) k).getLast?=some j:=⟨_,List.getLast?_eq_some_getLast h⟩
 exact ⟨j,hj,kL (by unfold tZ; rw [List.getLast?_map,hj]; rfl)⟩
section
variable {P:Program} {w:World} {K:PySem.W.Frag} {mg:Str→Option Value} {base:Heap}
noncomputable abbrev t5:List Str:=["program","heads","ends","elses","homes","opened","place","row"]
theorem wq:aN t5 ["program"] (ak jO):=⟨rfl,rfl,rfl,by decide +kernel,rfl,by decide +kernel,by decide +kernel⟩
theorem E7 {f:Addr} {fd:FuncData} (D:Df K mg "shape" jO ["program"] f fd) (M:Mg5 K mg):bY P w K mg base "shape" ["program"] 1 (Rx K 1 E4):=by
 refine D.i5 (fnD D.F wq rfl (by decide) fun bO A outer s H E Ox hr ts q hG=>?_)
 have nd:=wq.nd
 have hu:=bA.fu hr
 have np:∀ {i:Nat},a9 ⟨H,[],Ox⟩ i:=n5
 obtain ⟨ac,mc,hac⟩:=M.CL
 obtain ⟨ao,mo,hao⟩:=M.OP
 have mE:∀ {pos},VP (iA jk P w K mg base t5 "shape" (ak jO) f bO A outer s H E).uW ⟨H,[],Ox⟩ (.Name "CLOSERS" pos) (fC (.tup [.str "give",.str "end"])):=eV (by rfl) mc (v:=.ref ac) rfl fun H A=>bu (hac H) (aA.cons bJ (aA.cons bJ aA.nil))
 have mF:∀ {pos},VP (iA jk P w K mg base t5 "shape" (ak jO) f bO A outer s H E).uW ⟨H,[],Ox⟩ (.Name "OPENERS" pos) (fC (.tup [.str "def",.str "if",.str "while"])):=eV (by rfl) mo (v:=.ref ao) rfl fun H A=>bu (hao H) (aA.cons bJ (aA.cons bJ (aA.cons bJ aA.nil)))
 obtain ⟨rs,rfl,W,hn,hq⟩:=hG
 refine ⟨_,(ie (c6 (i:=1) nd rfl (Or.inl rfl) (VP.vx (jt (cg (ae (VP.ve jl) ai)) (VP.vr (aG aI aJ (by rfl) M.len jd (ar (aa 0) az))))) np)
   (ie (c6 (i:=2) nd rfl (Or.inl rfl) (VP.vx (jt (cg (ae (VP.ve jl) ai)) (VP.vr (aG aI aJ (by rfl) M.len jd (ar (aa 0) az))))) np)
   (ie (c6 (i:=3) nd rfl (Or.inl rfl) (VP.vx (jt (cg (ae (VP.ve jl) ai)) (VP.vr (aG aI aJ (by rfl) M.len jd (ar (aa 0) az))))) np)
   (ie (c6 (i:=4) nd rfl (Or.inl rfl) (VP.vx (jt (cg (ae (VP.ve jl) ai)) (VP.vr (aG aI aJ (by rfl) M.len jd (ar (aa 0) az))))) np)
   (ie (c6 (i:=5) nd rfl (Or.inl rfl) (VP.vx (cg ai)) np)
   (ie (dM zk rfl (gJ (by rfl) M.enumerate (aj 0)) (f_ (n:=2) rfl (bc (aV (i:=6) nd rfl (Or.inl rfl) np) (bc (aV (i:=7) nd rfl (Or.inl rfl) np) dJ)))
     (ag (aY (vj (VP.vr (aG aI aJ (by rfl) M.len jd (ar (aa 5) az))) (VP.vr af))
       (ag (gX 1 (VP.ve (aS (aa 5) (VP.vr (gW (VP.vr af))))) (aa 6))
       (ah (gX 4 (VP.ve (aS (aa 5) (VP.vr af))) (aa 6))))
       aB)
     (nL.weak (u:=(Jn rs (M1 rs))) (ag (aY (bB hu (VP.vr (aS (aa 7) (VP.vr af))) (VP.vr ay))
       (ah (gX 4 (aj 6) (aa 6)))
       aB)
     (nL.weak (u:=(Jn rs (M2 rs))) (ag (aY (bB hu (VP.vr (aS (aa 7) (VP.vr af))) (VP.vr ay))
       (ah (gX 3 (aj 6) (VP.vr (aS (aa 5) (VP.vr (gW (VP.vr af)))))))
       aB)
     (nL.weak (u:=(Jn rs (M3 rs))) (ag (aY (vC (VP.vr (aS (aa 7) (VP.vr af))) (VP.vr mE))
       (ag (gX 2 (aj 6) (VP.vr (aS (aa 5) (VP.vr (gW (VP.vr af))))))
       (ah (bp (yf 5 PySem.F.slot_list_pop PySem.F.type_list_pop x9 sQ))))
       aB)
     (nL.weak (u:=(Jn rs (M4 rs))) (ah (aY (vC (VP.vr (aS (aa 7) (VP.vr af))) (VP.vr mF))
       (ah (bp (fZ 5 xF xG bx br (ae (aj 6) ai))))
       aB)) ?w4)) ?w3)) ?w2)) ?w1)))
   (IL (is:=[1,2,3,4]) rfl ⟨_,_,1,_,rfl,rfl,rfl,Or.inl rfl,by decide,by decide,rfl,⟨_,_,2,_,rfl,rfl,rfl,Or.inl rfl,by decide,by decide,rfl,⟨_,_,3,_,rfl,rfl,rfl,Or.inl rfl,by decide,by decide,rfl,⟨_,_,4,_,rfl,rfl,rfl,Or.inl rfl,by decide,by decide,rfl,rfl⟩⟩⟩⟩ (by decide) (by decide)))))))),fun _=>?main⟩
 case w4 =>
  rintro d ρ ⟨k,r,h,e,l,o,s,cO,rfl,rfl,⟨rfl,rfl,rfl,rfl⟩,fin⟩
  have BG:k < rs.length:=(cn.mp cO).1
  have bW:=bP cO
  obtain ⟨rl,er⟩:=ig r
  unfold E6
  rw [er]
  refine ⟨_,aq (j:=0) rfl,rfl,rfl,?_⟩
  refine nK (fun h1=>?_) (fun h1=>?_)
  · have ho:(au r).op=true:=by rw [← RE]; exact h1
    have hc:(au r).cl=false:=by have:=W.ex k BG (by rw [bW]; exact ho); rw [bW] at this; exact this
    rw [hc,if_neg c7]
    refine ⟨?_,fin _ ⟨_,_,_,_,_,_,_,rfl,rfl,rfl,rfl,rfl,?_⟩⟩
    · have:=E5 (bq rs) k
      unfold tZ
      rw [b_,sizeLine_eq]
      omega
    · unfold tZ
      rw [gL (by rw [bW]; exact ho) (by rw [bW]; exact hc),xx]
      rfl
  · have ho:(au r).op=false:=by
     cases q:(au r).op with
     | false=>rfl
     | true=>exact (h1 ((RE r).trans q)).elim
    refine fin _ ⟨_,_,_,_,_,_,_,rfl,rfl,rfl,rfl,rfl,?_⟩
    unfold tZ
    by_cases hc:(au r).cl=true
    · rw [if_pos hc,d4 (by rw [bW]; exact hc) (by rw [bW]; exact ho),List.map_dropLast]
    · rw [if_neg hc,i6 (by rw [bW]; cases q:(au r).cl <;> simp_all) (by rw [bW]; exact ho)]
 case w3 =>
  rintro d ρ ⟨k,r,h,e,l,o,s,cO,rfl,rfl,⟨rfl,rfl,rfl,rfl⟩,fin⟩
  have BG:k < rs.length:=(cn.mp cO).1
  have bW:=bP cO
  obtain ⟨rl,er⟩:=ig r
  unfold E6
  rw [er]
  refine ⟨_,aq (j:=0) rfl,rfl,rfl,?_⟩
  refine nK (fun h1=>?_) (fun h1=>?_)
  · have hc:(au r).cl=true:=by rw [← RD]; exact h1
    have jS:(bq rs k).cl=true:=by rw [bW]; exact hc
    obtain ⟨j,hj,ej⟩:=t4 (W.cl k BG jS)
    obtain ⟨te,hjk⟩:=II W BG jS hj
    refine ⟨_,ej,j,by rw [vM]; exact pq (by omega),rfl,.int (j:Int),?_,k,r,_,_,_,_,_,cO,by rw [← er]; rfl,rfl,⟨?_,rfl,rfl,by rw [if_pos hc]⟩,fin⟩
    · unfold tZ
      rw [b_,gw,← UY,hj]
      rfl
    · refine Ei te fun i hi he=>?_
      have:=(zV W BG he hi).2
      rw [hj] at this
      exact (Option.some.inj this).symm
  · have hc:(au r).cl=false:=by
     cases q:(au r).cl with
     | false=>rfl
     | true=>exact (h1 ((RD r).trans q)).elim
    refine ⟨k,r,_,_,_,_,_,cO,by rw [← er]; rfl,rfl,⟨Bn fun i hi he=>?_,rfl,rfl,by rw [hc,if_neg c7]⟩,fin⟩
    have:=(zV W BG he hi).1
    rw [bW,hc] at this
    cases this
 case w2 =>
  rintro d ρ ⟨k,r,h,e,l,o,s,cO,rfl,rfl,⟨rfl,rfl,rfl,rfl⟩,fin⟩
  have BG:k < rs.length:=(cn.mp cO).1
  have bW:=bP cO
  obtain ⟨rl,er⟩:=ig r
  unfold E6
  rw [er]
  refine ⟨_,aq (j:=0) rfl,?_⟩
  refine nK (fun h1=>?_) (fun h1=>?_)
  · have hc:(au r).el=true:=by rw [← RC]; exact h1
    have jS:(bq rs k).el=true:=by rw [bW]; exact hc
    obtain ⟨j,hj,ej⟩:=t4 (W.el k BG jS)
    have GP:j < k:=(jM k).2 j (U5 hj)
    refine ⟨_,ej,j,by rw [tR]; exact pq (by omega),k,r,_,_,_,_,_,cO,by rw [← er]; rfl,rfl,⟨rfl,?_,rfl,rfl⟩,fin⟩
    simp only [yu,ni,jS,hj]
  · have hc:(au r).el=false:=by
     cases q:(au r).el with
     | false=>rfl
     | true=>exact (h1 ((RC r).trans q)).elim
    refine ⟨k,r,_,_,_,_,_,cO,by rw [← er]; rfl,rfl,⟨rfl,?_,rfl,rfl⟩,fin⟩
    simp only [yu,bW,hc]
 case w1 =>
  rintro d ρ ⟨k,r,h,e,l,o,s,cO,rfl,rfl,⟨rfl,rfl,rfl,ol,o1,o2⟩,fin⟩
  have BG:k < rs.length:=(cn.mp cO).1
  obtain ⟨rl,er⟩:=ig r
  unfold E6
  rw [er]
  refine ⟨_,aq (j:=0) rfl,?_⟩
  refine nK (fun h1=>?_) (fun h1=>?_)
  · exact ⟨k,by rw [ol]; exact pq BG,k,r,_,_,_,_,_,cO,by rw [← er]; rfl,rfl,⟨rfl,rfl,rfl,o1 (by rw [← RB]; exact h1)⟩,fin⟩
  · have hc:(au r).df=false:=by
     cases q:(au r).df with
     | false=>rfl
     | true=>exact (h1 ((RB r).trans q)).elim
    exact ⟨k,r,_,_,_,_,_,cO,by rw [← er]; rfl,rfl,⟨rfl,rfl,rfl,o2 hc⟩,fin⟩
 case main =>
  have hlen:((rs.map ax).length:Int)=(rs.length:Int):=by rw [b_]
  have Yr:(List.replicate ((rs.map ax).length:Int).toNat [T.bb]).flatten=List.replicate rs.length T.bb:=by
   rw [hlen,lU]
   exact Jm _ _
  have A_ : -(2 ^ 63)≤((rs.map ax).length:Int):=by omega
  have yq:((rs.map ax).length:Int) < 2 ^ 63:=by omega
  have VU:[T.bb].length * ((rs.map ax).length:Int).toNat≤sizeLine:=by rw [hlen,lU,sizeLine_eq]; simp; omega
  refine ⟨cz (by simp),A_,yq,VU,cz (by simp),A_,yq,VU,cz (by simp),A_,yq,VU,cz (by simp),A_,yq,VU,cz (by simp),?_⟩
  show oM (jr (rs.map ax)) _ _ _ [some (.lst (rs.map ax),false),some (.lst (List.replicate ((rs.map ax).length:Int).toNat [T.bb]).flatten,true),some (.lst (List.replicate ((rs.map ax).length:Int).toNat [T.bb]).flatten,true),some (.lst (List.replicate ((rs.map ax).length:Int).toNat [T.bb]).flatten,true),some (.lst (List.replicate ((rs.map ax).length:Int).toNat [T.bb]).flatten,true),some (.lst [],true),none,none]
  rw [Ek,Yr]
  refine kT (R_ rs)
   ⟨_,_,_,_,_,_,_,rfl,(vN _ _).symm,(Bm _ _).symm,rfl,(vN _ _).symm,rfl⟩ ?_ ?_
  · rintro k ⟨r,k'⟩ ρ hk ⟨b6,b7,_,_,_,_,_,rfl,rfl,rfl,rfl,rfl,rfl⟩
    rw [List.getElem?_zipIdx] at hk
    cases cO:rs[k]? with
    | none=>rw [cO] at hk; cases hk
    | some r' =>
    rw [cO] at hk
    simp at hk
    obtain ⟨rfl,rfl⟩:=hk
    have BG:k < rs.length:=(cn.mp cO).1
    obtain ⟨rl,er⟩:=ig r'
    refine ⟨rfl,rfl,?_⟩
    show MA _ _ _ [some (.lst (rs.map ax),false),some (.lst (tab (ni (bq rs)) rs.length k),true),some (.lst (jb (endsAt (bq rs) rs.length) rs.length k),true),some (.lst (yu (bq rs) rs.length k),true),some (.lst (tab (kA (bq rs)) rs.length k),true),some (.lst (tZ rs k),true),some (.int (k:Int),false),some (ax r',false)]
    rw [er]
    have bW:=bP cO
    refine cJ (fun h1=>?_) (fun h1=>?_)
    · have gG:st (bq rs) k≠[]:=fun z=>by
       have GK:((tZ rs k).length:Int) > 0:=h1
       unfold tZ at GK
       rw [z] at GK
       simp at GK
      obtain ⟨j,hj,ej⟩:=t4 gG
      obtain ⟨j0,hj0⟩:∃ j0,(st (bq rs) k).head?=some j0:=⟨_,List.head?_eq_some_head gG⟩
      have ej0:jH (tZ rs k) 0=some (.int (j0:Int)):=aq (j:=0) (by unfold tZ; rw [gw,← List.head?_eq_getElem?,hj0]; rfl)
      refine ⟨_,ej,k,by rw [k5]; exact pq BG,_,ej0,k,by rw [k5]; exact pq BG,k,r',_,_,_,_,_,cO,by rw [← er]; rfl,?_,⟨rfl,rfl,rfl,by rw [G2,k5],fun hd=>?_,fun hd=>?_⟩,fun ρ' h=>h⟩
      · have e1:T.int (j:Int)=oT (ni (bq rs) k):=by unfold ni; rw [hj]; rfl
        rw [e1]; exact oh
      · rw [List.set_set]
        have e1:T.int (k:Int)=oT (kA (bq rs) k):=by unfold kA; rw [bW,if_pos hd]; rfl
        rw [e1]; exact oh
      · have e1:T.int (j0:Int)=oT (kA (bq rs) k):=by unfold kA; rw [bW,hd,if_neg c7,hj0]; rfl
        rw [e1]; exact oh
    · have gG:st (bq rs) k=[]:=by
       cases q:st (bq rs) k with
       | nil=>rfl
       | cons a b =>
         exfalso
         refine h1 ?_
         show ((tZ rs k).length:Int) > 0
         unfold tZ
         rw [q]
         simp
      refine ⟨k,r',_,_,_,_,_,cO,by rw [← er]; rfl,vO (by unfold ni; rw [gG]; rfl),⟨rfl,rfl,rfl,by rw [k5],fun hd=>?_,fun hd=>?_⟩,fun ρ' h=>h⟩
      · have e1:T.int (k:Int)=oT (kA (bq rs) k):=by unfold kA; rw [bW,if_pos hd]; rfl
        rw [e1]; exact oh
      · exact vO (by unfold kA; rw [bW,hd,if_neg c7,gG]; rfl)
  · rintro ρ ⟨b6,b7,_,_,_,_,_,rfl,rfl,rfl,rfl,rfl,rfl⟩
    rw [List.length_zipIdx,vP,vP,Bo]
    · exact hq
    · intro j m hj he
      unfold endsAt at he
      split at he
      · rename_i ho
        obtain ⟨e,h1,h2,h3,_⟩:=end_is W hj ho
        rw [h1] at he
        cases he
        exact h3
      · cases he
end
end Pp
namespace Lay
open PySem L2 VT Gen K5
noncomputable abbrev jz:Stmt:=inClass (top 38) 0
structure R' (mg:Str→Option Value):Prop where
 len:mg "len" = none
 min:mg "min" = none
structure Sa (K:PySem.W.Frag) (C:Addr):Prop where
 cl:Hn K C
 eF:dq K C "program"
 Ab:dq K C "heads"
 NN:dq K C "ends"
 Jo:dq K C "elses"
 Ac:dq K C "homes"
 t6:dq K C "defs"
 E8:dq K C "main"
noncomputable def Ad (C:Addr) (ts:List T) (q:T→Prop):Prop:=∃ rs:List Rw,ts=[.lst (rs.map ax)]∧rQ rs∧rs.length≤100∧q (BF C rs)
section
variable {P:Program} {w:World} {K:PySem.W.Frag} {mg:Str→Option Value} {base:Heap} {bT:Addr}
noncomputable abbrev E9:List Str:=["self","program","parts"]
theorem r8:aN E9 ["self","program"] (ak jz):=⟨rfl,rfl,rfl,by decide +kernel,rfl,by decide +kernel,by decide +kernel⟩
theorem BH {f:Addr} {fd:FuncData} (D:Dc K mg "Layout" "Layout.__init__" jz ["self","program"] bT f fd) (M:R' mg) (M1:Sa K bT) (Jp:bY P w K mg base "shape" ["program"] 1 (Rx K 1 Pp.E4)) (iO:bY P w K mg base "first_defs" ["program"] 1 (bQ K 1 pk)):NB P w K mg base "Layout" bT ["self","program"] 2 1 (Ad bT):=by
 obtain ⟨VY,Sb,Jq,Jr,Js,Jt⟩:=Jp
 obtain ⟨t7,qJ,iP,iQ,iR,iS⟩:=iO
 refine D.i5 (fnI D.F r8 rfl fun bO A outer s H E as Ox hr us q hl hG=>?_)
 have nd:=r8.nd
 have aE:=M1
 refine ⟨_,(ag (ba (i:=2) nd rfl (Or.inl rfl) (VP.vx (VD.vp (IM Jt (hr.mono (by decide)) (by rfl) Jq Jr Js (ae (aj 1) ai)))) (zQ (by decide)))
   (ag (km 0 aE.cl aE.eF (aj 1))
   (ag (km 0 aE.cl aE.Ab (VP.ve (aS (aa 2) (VP.vr af))))
   (ag (km 0 aE.cl aE.NN (VP.ve (aS (aa 2) (VP.vr af))))
   (ag (km 0 aE.cl aE.Jo (VP.ve (aS (aa 2) (VP.vr af))))
   (ag (km 0 aE.cl aE.Ac (VP.ve (aS (aa 2) (VP.vr af))))
   (ag (km 0 aE.cl aE.t6 (VP.ve (aK iS (hr.mono (by decide)) (by rfl) iP iQ iR (ae (aj 1) ai))))
   (ah (km 0 aE.cl aE.E8 (VP.ve (Ko (vj (VP.vr (aG Bq yx (by rfl) M.len jd (ar (VP.vr (iL aE.cl aE.t6 (aa 0))) az))) (VP.vr af)) (yy rfl (by rfl) M.min (VP.vr (iL aE.cl aE.t6 (aa 0)))) jl))))))))))),?_⟩
 obtain ⟨rs,rfl,W,hn,hq⟩:=hG
 refine ⟨rfl,rs,rfl,W,hn,?_⟩
 rw [E3]
 refine ⟨rfl,by show 0 < 1000; decide,?_⟩
 refine ⟨rfl,_,aq (j:=0) rfl,by show 1 < 1000; decide,?_⟩
 refine ⟨rfl,_,aq (j:=1) rfl,by show 2 < 1000; decide,?_⟩
 refine ⟨rfl,_,aq (j:=2) rfl,by show 3 < 1000; decide,?_⟩
 refine ⟨rfl,_,aq (j:=3) rfl,by show 4 < 1000; decide,?_⟩
 refine ⟨rfl,rfl,rs,rfl,hn,by show 5 < 1000; decide,?_⟩
 refine ⟨rfl,?_⟩
 refine ⟨rfl,_,rfl,?_⟩
 refine cJ (fun h=>?_) (fun h=>?_)
 · refine ⟨rfl,_,rfl,(aH rs rs.length).map (fun p=>(p.2:Int)),?_,?_,fun m h1 h2=>?_⟩
   · rw [GA]; rfl
   · intro z
     rw [List.map_eq_nil_iff] at z
     rw [z] at h
     exact absurd h (by decide)
   · refine ⟨by show 6 < 1000; decide,?_⟩
     have e:=E2 h1 h2
     show q [_] _
     rw [e]
     exact hq
 · refine ⟨by show 6 < 1000; decide,?_⟩
   have z:aH rs rs.length=[]:=by
    cases e:aH rs rs.length with
    | nil=>rfl
    | cons a b =>
      exfalso
      apply h
      rw [e]
      simp
   have e:cp rs=none:=by
    cases e:cp rs with
    | none=>rfl
    | some i =>
      obtain ⟨⟨g,ps,hi⟩,hm⟩:=bI e
      obtain ⟨l,hl⟩:=jy hi hm rs.length (cn.mp hi).1
      rw [z] at hl
      cases hl
   have e2:T.bb=oT (cp rs):=by rw [e]; rfl
   unfold BF at hq
   rw [← e2] at hq
   exact hq
end
end Lay
namespace BS
open PySem PySem.Builtin PyProof.Rows
noncomputable def ib (x:Int) (k:Nat):Bool:=decide (x / 2 ^ k % 2=1)
theorem two_pos (k:Nat):(0:Int) < 2 ^ k:=Int.pow_pos (by decide)
theorem k_ (k:Nat):((2 ^ k:Nat):Int)=2 ^ k:=by rw [Int.natCast_pow]; rfl
theorem cv (n k:Nat):ib (n:Int) k=n.testBit k:=by
 unfold ib
 rw [Nat.testBit_eq_decide_div_mod_eq,← k_]
 have:((n:Int) / ((2 ^ k:Nat):Int) % 2=1)↔(n / 2 ^ k % 2=1):=by
  rw [← Int.natCast_ediv]; omega
 exact decide_eq_decide.mpr this
theorem gm (x:Int) (k:Nat):ib (bitNot x) k = !ib x k:=by
 unfold ib bitNot
 have h:(-x - 1) / 2 ^ k = -(x / 2 ^ k) - 1:=by
  have hp:=two_pos k
  have e1:=Int.mul_ediv_add_emod x (2 ^ k)
  have e2:=kC x (Int.ne_of_gt hp)
  have e3:=lT x hp
  refine (Int.ediv_emod_unique hp (r:=2 ^ k - 1 - x % 2 ^ k)).mpr ⟨?_,?_,?_⟩ |>.1
  · have:2 ^ k * (-(x / 2 ^ k) - 1) = -(2 ^ k * (x / 2 ^ k)) - 2 ^ k:=by rw [Int.mul_sub,Int.mul_neg,Int.mul_one]
    rw [this]; omega
  · omega
  · omega
 rw [h]
 by_cases q:x / 2 ^ k % 2=1
 · rw [decide_eq_true q,decide_eq_false (by omega)]; rfl
 · rw [decide_eq_false q,decide_eq_true (by omega)]; rfl
theorem E_ {x y:Int} (h:∀ k,ib x k=ib y k):x=y:=by
 have pos:∀ (m n:Nat),(∀ k,ib (m:Int) k=ib (n:Int) k)→m=n:=fun m n q=>Nat.eq_of_testBit_eq fun k=>by rw [← cv,← cv]; exact q k
 have mix:∀ (m:Nat) (y:Int),¬ 0≤y→¬ ∀ k,ib (m:Int) k=ib y k:=by
  intro m y hy q
  have hn:0≤bitNot y:=bitNot_nonneg.mpr hy
  obtain ⟨n,hn⟩:=nH hn
  have h1:=q (m+n)
  rw [← bitNot_bitNot y,gm,hn,cv,cv] at h1
  have a1:m.testBit (m+n)=false:=Nat.testBit_lt_two_pow (U6 (Nat.le_add_right m n) Nat.lt_two_pow_self)
  have a2:n.testBit (m+n)=false:=Nat.testBit_lt_two_pow (U6 (Nat.le_add_left n m) Nat.lt_two_pow_self)
  rw [a1,a2] at h1
  cases h1
 by_cases hx:0≤x
 · obtain ⟨m,rfl⟩:=nH hx
   by_cases hy:0≤y
   · obtain ⟨n,rfl⟩:=nH hy
     exact congrArg _ (pos m n h)
   · exact (mix m y hy h).elim
 · by_cases hy:0≤y
   · obtain ⟨n,rfl⟩:=nH hy
     exact (mix n x hx fun k=>(h k).symm).elim
   · have a:=bitNot_nonneg.mpr hx
     have b:=bitNot_nonneg.mpr hy
     obtain ⟨m,hm⟩:=nH a
     obtain ⟨n,hn⟩:=nH b
     have:m=n:=pos m n fun k=>by rw [← hm,← hn,gm,gm,h k]
     rw [← bitNot_bitNot x,← bitNot_bitNot y,hm,hn,this]
theorem wu (x m:Nat):x - (x &&& m)=x ^^^ (x &&& m):=by
 have h:=nat_or_add_and (x ^^^ (x &&& m)) (x &&& m)
 have e1:(x ^^^ (x &&& m)) ||| (x &&& m)=x:=Nat.eq_of_testBit_eq fun k=>by
  simp only [Nat.testBit_or,Nat.testBit_xor,Nat.testBit_and]
  cases x.testBit k <;> cases m.testBit k <;> rfl
 have e2:(x ^^^ (x &&& m)) &&& (x &&& m)=0:=Nat.eq_of_testBit_eq fun k=>by
  simp only [Nat.testBit_xor,Nat.testBit_and,Nat.zero_testBit]
  cases x.testBit k <;> cases m.testBit k <;> rfl
 rw [e1,e2] at h
 omega
theorem Fb (x y:Int) (k:Nat):ib (bitAnd x y) k=(ib x k && ib y k):=by
 have pn:∀ (m:Nat) (y:Int),¬ 0≤y→ib ((m:Int) - ((m &&& (bitNot y).toNat:Nat):Int)) k=(ib (m:Int) k && ib y k):=by
  intro m y hy
  obtain ⟨n,hn⟩:=nH (bitNot_nonneg.mpr hy)
  have e:ib y k = !n.testBit k:=by rw [← bitNot_bitNot y,gm,hn,cv]
  rw [hn,lU,← Int.ofNat_sub Nat.and_le_left,wu,cv,cv,e]
  simp only [Nat.testBit_xor,Nat.testBit_and]
  cases m.testBit k <;> cases n.testBit k <;> rfl
 by_cases hx:0≤x
 · obtain ⟨m,rfl⟩:=nH hx
   by_cases hy:0≤y
   · obtain ⟨n,rfl⟩:=nH hy
     rw [bitAnd_pp hx hy,lU,lU,cv,cv,cv,Nat.testBit_and]
   · rw [bitAnd_pn hx hy,lU]
     exact pn m y hy
 · by_cases hy:0≤y
   · obtain ⟨n,rfl⟩:=nH hy
     rw [bitAnd_np hx hy,lU,pn n x hx,Bool.and_comm]
   · obtain ⟨m,hm⟩:=nH (bitNot_nonneg.mpr hx)
     obtain ⟨n,hn⟩:=nH (bitNot_nonneg.mpr hy)
     rw [bitAnd_nn hx hy,hm,hn,lU,lU,gm,cv,Nat.testBit_or,← cv,← cv,← hm,← hn,gm,gm]
     cases ib x k <;> cases ib y k <;> rfl
theorem Ae (x y:Int) (k:Nat):ib (bitOr x y) k=(ib x k || ib y k):=by
 unfold bitOr
 rw [gm,Fb,gm,gm]
 cases ib x k <;> cases ib y k <;> rfl
theorem eW (k:Nat):ib 0 k=false:=by
 have:=cv 0 k
 rw [Nat.zero_testBit] at this
 exact this
theorem Fc (x:Int) (j k:Nat):ib (x / 2 ^ j) k=ib x (j+k):=by
 unfold ib
 rw [Wc (Int.le_of_lt (two_pos j)),← Int.pow_add]
theorem NO (x:Int) (j k:Nat):ib (x % 2 ^ j) k=(decide (k < j) && ib x k):=by
 have pos:∀ n:Nat,ib ((n:Int) % 2 ^ j) k=(decide (k < j) && n.testBit k):=fun n=>by
  rw [← k_,← Int.natCast_emod,cv,Nat.testBit_mod_two_pow]
 by_cases hx:0≤x
 · obtain ⟨m,rfl⟩:=nH hx
   rw [pos,cv]
 · obtain ⟨m,hm⟩:=nH (bitNot_nonneg.mpr hx)
   have e:x = -(m:Int) - 1:=by unfold bitNot at hm; omega
   have hp:=two_pos j
   have e2:x % 2 ^ j=2 ^ j - 1 - (m:Int) % 2 ^ j:=by
    have e1:=Int.mul_ediv_add_emod (m:Int) (2 ^ j)
    have e2:=kC (m:Int) (Int.ne_of_gt hp)
    have e3:=lT (m:Int) hp
    refine (Int.ediv_emod_unique hp (q:=-((m:Int) / 2 ^ j) - 1)).mpr ⟨?_,?_,?_⟩ |>.2
    · have:2 ^ j * (-((m:Int) / 2 ^ j) - 1) = -(2 ^ j * ((m:Int) / 2 ^ j)) - 2 ^ j:=by rw [Int.mul_sub,Int.mul_neg,Int.mul_one]
      rw [this]; omega
    · omega
    · omega
   have e3:x % 2 ^ j=((2 ^ j - (m % 2 ^ j+1):Nat):Int):=by
    have gz:m % 2 ^ j < 2 ^ j:=Nat.mod_lt _ (Nat.two_pow_pos j)
    have a1:(m:Int) % 2 ^ j=((m % 2 ^ j:Nat):Int):=by rw [Int.natCast_emod,k_]
    have a2:=k_ j
    rw [e2,a1,← a2]
    generalize 2 ^ j=P at gz ⊢
    omega
   have hb:ib x k = !m.testBit k:=by rw [← bitNot_bitNot x,gm,hm,cv]
   rw [e3,cv,Nat.testBit_two_pow_sub_succ (Nat.mod_lt _ (Nat.two_pow_pos j)),Nat.testBit_mod_two_pow,hb]
   by_cases q:k < j
   · rw [decide_eq_true q,uN,uN,uN]
   · rw [decide_eq_false q,Cq,Cq]
theorem NP (x:Int) (j k:Nat):ib (x * 2 ^ j) k=(decide (j≤k) && ib x (k - j)):=by
 by_cases h:j≤k
 · obtain ⟨d,rfl⟩:=Nat.exists_eq_add_of_le h
   rw [decide_eq_true h,uN,Nat.add_sub_cancel_left,← Fc,Int.mul_ediv_cancel _ (Int.ne_of_gt (two_pos j))]
 · rw [decide_eq_false h,Cq]
   have q:=NO (x * 2 ^ j) j k
   rw [Int.mul_emod_left,eW,decide_eq_true (by omega),uN] at q
   exact q.symm
theorem t8 (k:Nat):ib 1 k=decide (k=0):=by
 cases k with
 | zero=>decide
 | succ k =>
   have h:(1:Int) / 2 ^ (k+1)=0:=Wg (by decide) (by rw [Int.pow_succ]; have:=two_pos k; omega)
   unfold ib
   rw [h]
   rfl
theorem t9 (j k:Nat):ib (2 ^ j) k=decide (k=j):=by
 have h:=NP 1 j k
 rw [Int.one_mul,t8] at h
 rw [h]
 by_cases e:k=j
 · subst e; simp
 · rw [decide_eq_false e]
   by_cases l:j≤k
   · rw [decide_eq_false (by omega:¬ k - j=0),G3]
   · rw [decide_eq_false l,Cq]
theorem Ju (x:Int):bitAnd x 1=if ib x 0=true then 1 else 0:=E_ fun k=>by
 rw [Fb,t8]
 by_cases e:k=0
 · subst e
   cases q:ib x 0 with
   | true=>rw [if_pos rfl,t8]; rfl
   | false=>rw [if_neg (by decide),eW]; rfl
 · rw [decide_eq_false e,G3]
   split
   · rw [t8,decide_eq_false e]
   · rw [eW]
theorem yD (x:Int) (k:Nat):bitAnd (x / 2 ^ k) 1=if ib x k=true then 1 else 0:=by rw [Ju,Fc,Nat.add_zero]
theorem yE (x:Int) (k:Nat):x / 2 ^ k % 2=if ib x k=true then 1 else 0:=by
 unfold ib
 by_cases h:x / 2 ^ k % 2=1
 · rw [decide_eq_true h,if_pos rfl]; exact h
 · rw [decide_eq_false h,if_neg (by decide)]; omega
noncomputable def sub (y x:Int):Prop:=∀ k,ib y k=true→ib x k=true
noncomputable def below (m:Nat) (x:Int):Prop:=0≤x∧x < 2 ^ m
inductive Way (kq:List Int):Nat→Nat→Prop where
 | refl (a:Nat):Way kq a a
 | step {a b c:Nat} {y:Int}:Way kq a b→kq[b]?=some y→ib y c=true→Way kq a c
noncomputable def cnt (x:Int):Nat→Nat
 | 0=>0
 | k+1=>cnt x k+(if ib x k=true then 1 else 0)
noncomputable def sw (kq:List Int):Nat→Int→Int
 | 0,x=>x
 | k+1,x=>if ib (sw kq k x) k=true then bitOr (sw kq k x) (kq.getD k 0) else sw kq k x
noncomputable def rounds (kq:List Int):Nat→Int→Int
 | 0,x=>x
 | t+1,x=>sw kq kq.length (rounds kq t x)
section
variable {kq:List Int}
end
noncomputable def mem (x:Int):List Nat:=(List.range (Builtin.Int.intBits x)).filter (ib x)
structure Bk (kq:List Int) (rows t:Int) (W:List Nat) (m:Nat):Prop where
 has:sub rows t
 bel:below kq.length t
 wt:∀ k∈W,ib t k=true
 clo:∀ k y,kq[k]?=some y→ib t k=true→k∉W→sub y t
 way:∀ b,ib t b=true→∃ a,ib rows a=true∧Way kq a b
 me:m=W.length+(kq.length - cnt t kq.length)
section
variable {kq:List Int} {rows t:Int} {W:List Nat} {m:Nat}
end
noncomputable def lst (kq:List Int) (x:Int):Int:=rounds kq kq.length x
noncomputable def Turn (kq out:List Int):Prop:=out.length=kq.length∧(∀ y∈out,below kq.length y)∧∀ i j,ib (out.getD j 0) i=(decide (j < kq.length) && ib (kq.getD i 0) j)
section
variable {kq L:List Int} {i:Nat} {S:List Nat}
end
noncomputable abbrev Al:=List (Nat×Option Nat)
noncomputable def idx:Al→Nat→Nat
 | [],_=>0
 | (k,_) :: al,j=>if k=j then 0 else idx al j+1
section
variable {kq:List Int} {r:Nat} {al:Al}
end
end BS
namespace On
open PySem L2 VT Gen K5 Lay BS
noncomputable def de (rs:List Rw) (S:Int) (j:Nat):Bool:=decide (cp rs=some j) || ib S j
noncomputable def VZ (rs:List Rw) (l:List Bool) (n:Nat):Bool:=match ni (bq rs) n with
 | some h=>l.getD h false
 | none=>false
noncomputable def Pq (rs:List Rw) (S:Int) (n:Nat):Rw→Bool
 | .qF=>true
 | .fin=>true
 | .call _ f _=>(match ng (aH rs rs.length) f with
   | some j=>de rs S j
   | none=>false) && ib S n
 | _=>ib S n
noncomputable def wx (rs:List Rw) (S:Int) (l:List Bool) (n:Nat) (r:Rw):Bool:=if k9 r=true then de rs S n else VZ rs l n && Pq rs S n r
noncomputable def bC (rs:List Rw) (S:Int):Nat→List Bool
 | 0=>[]
 | n+1=>bC rs S n ++ [match rs[n]? with
   | some r=>wx rs S (bC rs S n) n r
   | none=>false]
theorem eG (rs:List Rw) (S:Int):∀ n,(bC rs S n).length=n
 | 0=>rfl
 | n+1=>by simp [bC,eG rs S n]
noncomputable def Fd (rs:List Rw) (l:List Bool) (n:Nat):Bool:=match kA (bq rs) n with
 | some h=>l.getD h false
 | none=>false
noncomputable def cq (rs:List Rw) (l:List Bool) (n:Nat) (r:Rw):Rw:=if l.getD n false=true then r else match r with
 | .give _=>if Fd rs l n=true then .give (.nu 0) else .skip
 | _=>.skip
noncomputable def aT (rs:List Rw) (S:Int):List Rw:=rs.mapIdx fun n r=>cq rs (bC rs S rs.length) n r
noncomputable def yF (rs:List Rw):Prop:=∀ x f as,Rw.call x f as∈rs→∃ j,ng (aH rs rs.length) f=some j
theorem mG {rs:List Rw} (h:dw rs):yF rs:=fun x f as hm=>by
 obtain ⟨i,hi⟩:=CH.mp hm
 obtain ⟨j,ps,_,hj,_⟩:=h.ca i x f as hi
 exact ⟨j,h.first hj⟩
theorem getD_map {l:List Bool} {n:Nat} (h:n < l.length):jH (l.map T.bl) (n:Int)=some (.bl (l.getD n false)):=aq (by rw [gw,fD h,List.getD,fD h]; rfl)
theorem r9 {rs:List Rw} {n h:Nat} (e:ni (bq rs) n=some h):h < n:=(jM n).2 h (U5 e)
theorem Sd {rs:List Rw} {n h:Nat} (e:kA (bq rs) n=some h):h≤n:=by
 unfold kA at e
 split at e
 · cases e; exact cA _
 · exact Nat.le_of_lt ((jM n).2 h (List.mem_of_head? e))
theorem Jv {rs:List Rw} {n:Nat} {a:j1} (W:rQ rs) (hn:n < rs.length) (hr:rs[n]?=some (.give a)):∃ h,kA (bq rs) n=some h:=by
 have hk:bq rs n=au (.give a):=bP hr
 have gG:=W.cl n hn (by rw [hk]; rfl)
 unfold kA
 rw [hk]
 obtain ⟨a,l,e⟩:=List.exists_cons_of_ne_nil gG
 exact ⟨a,by rw [e]; rfl⟩
noncomputable abbrev Af:Stmt:=top 1
noncomputable abbrev t_:Stmt:=top 40
noncomputable abbrev gO:Stmt:=top 41
noncomputable abbrev gP:Stmt:=top 42
noncomputable abbrev iT:Stmt:=top 43
structure Pr (mg:Str→Option Value):Prop where
 len:mg "len" = none
 range:mg "range" = none
theorem cz {n:Nat} (h:n≤1000):n≤sizeLine:=Gen.small h
noncomputable def NQ (ts:List T) (q:Rt→Prop):Prop:=∃ (x:Int) (k:Nat),ts=[.int x,.int (k:Int)]∧q (.vw (.bl (ib x k)))
noncomputable def r_ (C:Addr) (ts:List T) (q:Rt→Prop):Prop:=∃ (rs:List Rw) (S:Int) (j:Nat),ts=[BF C rs,.int S,.int (j:Int)]∧q (.vw (.bl (de rs S j)))
noncomputable def sd (C:Addr) (ts:List T) (q:Rt→Prop):Prop:=∃ (rs:List Rw) (S:Int) (l:List Bool) (n:Nat) (r:Rw),ts=[BF C rs,.int S,.lst (l.map .bl),.int (n:Int)]∧rs[n]?=some r∧l.length=n∧yF rs∧q (.vw (.bl (wx rs S l n r)))
noncomputable def K3 (C:Addr) (ts:List T) (q:Rt→Prop):Prop:=∃ (rs:List Rw) (l:List Bool) (n:Nat) (r:Rw),ts=[BF C rs,.lst (l.map .bl),.int (n:Int)]∧rs[n]?=some r∧l.length=rs.length∧rQ rs∧q (.vw (ax (cq rs l n r)))
noncomputable def K4 (ts:List T) (q:Rt→Prop):Prop:=∃ (rs:List Rw) (S:Int),ts=[.lst (rs.map ax),.int S]∧rQ rs∧rs.length≤100∧yF rs∧q (.fr (.lst ((aT rs S).map ax)))
theorem NR (x:Int) (k:Nat):decide (Builtin.bitAnd (x / 2 ^ ((k:Int)).toNat) 1=1)=ib x k:=by
 rw [lU,yD]
 cases ib x k <;> decide
section
variable {P:Program} {w:World} {K:PySem.W.Frag} {mg:Str→Option Value} {base:Heap} {bT:Addr}
noncomputable abbrev Se:List Str:=["rows","row"]
theorem Fe:aN Se ["rows","row"] (ak Af):=⟨rfl,rfl,rfl,by decide +kernel,rfl,by decide +kernel,by decide +kernel⟩
theorem NS {f:Addr} {fd:FuncData} (D:Df K mg "has" Af ["rows","row"] f fd) (M:Pr mg):bY P w K mg base "has" ["rows","row"] 1 (bQ K 2 NQ):=by
 refine D.i5 (jJ D.F Fe rfl fun bO A outer s H E Ox hr ts q hG=>?_)
 have nd:=Fe.nd
 have hu:=bA.fu hr
 refine ⟨_,(ah (aD (VP.vx (kO hu (VP.vr (Ia (VP.vr (Dz (aa 0) (aa 1))) (VP.vr af))) (VP.vr af))))),fun _=>?_⟩
 obtain ⟨x,k,rfl,hq⟩:=hG
 refine ⟨by show (0:Int)≤(k:Int); omega,?_⟩
 show q (.vw (.bl (decide (Builtin.bitAnd (x / 2 ^ ((k:Int)).toNat) 1=1))))
 rw [NR]
 exact hq
noncomputable abbrev wy:List Str:=["layout","rows","place"]
theorem la:aN wy ["layout","rows","place"] (ak gP):=⟨rfl,rfl,rfl,by decide +kernel,rfl,by decide +kernel,by decide +kernel⟩
theorem ua {f:Addr} {fd:FuncData} (D:Df K mg "def_stays" gP ["layout","rows","place"] f fd) (M:Pr mg) (M1:Sa K bT) (Ff:bY P w K mg base "has" ["rows","row"] 1 (bQ K 2 NQ)):bY P w K mg base "def_stays" ["layout","rows","place"] 2 (bQ K 3 (r_ bT)):=by
 obtain ⟨Sf,NT,Fg,Fh,Fi,Fj⟩:=Ff
 refine D.i5 (jJ D.F la rfl fun bO A outer s H E Ox hr ts q hG=>?_)
 have nd:=la.nd
 have hu:=bA.fu hr
 have aE:=M1
 refine ⟨_,(ah (aD (VP.vx (zE (kO hu (aa 2) (VP.vr (iL aE.cl aE.E8 (aa 0)))) (kc (aK Fj (hr.mono (by decide)) (by rfl) Fg Fh Fi (ae (aj 1) (ae (aj 2) ai)))))))),fun _=>?_⟩
 obtain ⟨rs,S,j,rfl,hq⟩:=hG
 refine ⟨rfl,_,rfl,?_⟩
 unfold de at hq
 cases e:cp rs with
 | none =>
   rw [e] at hq
   refine ⟨rfl,rfl,qe _,rfl,S,j,rfl,?_⟩
   simpa using hq
 | some i =>
   rw [e] at hq
   dsimp only [oT,Rt.t,Pe]
   cases hb:decide ((j:Int)=(i:Int)) with
   | true =>
     have h:=of_decide_eq_true hb
     have h2:i=j:=by omega
     subst h2
     simpa using hq
   | false =>
     have h:=of_decide_eq_false hb
     have h2:¬ (some i=some j):=fun z=>h (by rw [Option.some.inj z])
     rw [decide_eq_false h2,PY] at hq
     exact ⟨rfl,S,j,rfl,hq⟩
noncomputable abbrev wz:List Str:=["layout","rows","stays","place","word","head"]
theorem lb:aN wz ["layout","rows","stays","place"] (ak gO):=⟨rfl,rfl,rfl,by decide +kernel,rfl,by decide +kernel,by decide +kernel⟩
theorem ub {f:Addr} {fd:FuncData} (D:Df K mg "does_stay" gO ["layout","rows","stays","place"] f fd) (M:Pr mg) (M1:Sa K bT) (wA:bY P w K mg base "def_stays" ["layout","rows","place"] 2 (bQ K 3 (r_ bT))) (Ff:bY P w K mg base "has" ["rows","row"] 1 (bQ K 2 NQ)):bY P w K mg base "does_stay" ["layout","rows","stays","place"] 3 (bQ K 4 (sd bT)):=by
 obtain ⟨K6,Jw,nq,ny,nz,nA⟩:=wA
 obtain ⟨Sf,NT,Fg,Fh,Fi,Fj⟩:=Ff
 refine D.i5 (jJ D.F lb rfl fun bO A outer s H E Ox hr ts q hG=>?_)
 have nd:=lb.nd
 have hu:=bA.fu hr
 have np:∀ {i:Nat},a9 ⟨H,[],Ox⟩ i:=n5
 have aE:=M1
 have zF:=Ey hu
 refine ⟨_,(ag (ba (i:=4) nd rfl (Or.inl rfl) (VP.vx (aS (VP.vr (aS (VP.vr (iL aE.cl aE.eF (aa 0))) (aa 3))) (VP.vr af))) np)
   (ag (ba (i:=5) nd rfl (Or.inl rfl) (VP.vx (aS (VP.vr (iL aE.cl aE.Ab (aa 0))) (aa 3))) np)
   (ag (aY (bB hu (aa 4) (VP.vr ay))
     (ah (aD (VP.vx (aK nA (hr.mono (by decide)) (by rfl) nq ny nz (ae (aj 0) (ae (aj 1) (ae (aj 3) ai)))))))
     aB)
   (ag (aY (VW.vc (jY (DK (aa 5) (VP.vr jl)) (iF (fq (dH (aS (aa 2) (aa 5)))))))
     (ah (aD (VP.vx hU)))
     aB)
   (ag (aY (vC (aa 4) (VP.vr (bw (ae (VP.ve ay) (ae (VP.ve ay) ai)))))
     (ah (aD (VP.vx hU)))
     aB)
   (ag (aY (VW.vc (du (bB hu (aa 4) (VP.vr ay)) (cS (fq (dH (aK nA (hr.mono (by decide)) (by rfl) nq ny nz (ae (aj 0) (ae (aj 1) (ae (VP.ve (Ex zF (VP.vr (iL aE.cl aE.t6 (aa 0))) (VP.vr (aS (VP.vr (aS (VP.vr (iL aE.cl aE.eF (aa 0))) (aa 3))) (VP.vr af))))) ai)))))))))
     (ah (aD (VP.vx hU)))
     aB)
   (ah (aD (VP.vx (aK Fj (hr.mono (by decide)) (by rfl) Fg Fh Fi (ae (aj 1) (ae (aj 3) ai)))))))))))),fun _=>?_⟩
 obtain ⟨rs,S,l,n,r,rfl,cO,hl,hc,hq⟩:=hG
 have gz:n < rs.length:=(cn.mp cO).1
 have hh:=NL gz
 unfold wx VZ at hq
 refine ⟨rfl,_,rfl,_,mD cO,?_⟩
 cases e:ni (bq rs) n with
 | none =>
   rw [e] at hq hh
   cases r with
   | df g ps =>
     exact ⟨_,aq (j:=0) rfl,rfl,_,rfl,_,hh,rfl,rs,S,n,rfl,hq⟩
   | _=>exact ⟨_,aq (j:=0) rfl,rfl,_,rfl,_,hh,hq⟩
 | some h =>
   rw [e] at hq hh
   dsimp only at hq
   have Yt:h < l.length:=by rw [hl]; exact r9 e
   have hg:=getD_map Yt
   cases r with
   | df g ps =>
     exact ⟨_,aq (j:=0) rfl,rfl,_,rfl,_,hh,rfl,rs,S,n,rfl,hq⟩
   | qF =>
     refine ⟨_,aq (j:=0) rfl,rfl,_,rfl,_,hh,_,hg,?_⟩
     cases hv:l.getD h false with
     | false=>rw [hv] at hq; exact hq
     | true=>rw [hv] at hq; exact ⟨cz (by simp),rfl,rfl,hq⟩
   | fin =>
     refine ⟨_,aq (j:=0) rfl,rfl,_,rfl,_,hh,_,hg,?_⟩
     cases hv:l.getD h false with
     | false=>rw [hv] at hq; exact hq
     | true=>rw [hv] at hq; exact ⟨cz (by simp),rfl,rfl,hq⟩
   | call x g as =>
     refine ⟨_,aq (j:=0) rfl,rfl,_,rfl,_,hh,_,hg,?_⟩
     cases hv:l.getD h false with
     | false=>rw [hv] at hq; exact hq
     | true =>
       rw [hv] at hq
       obtain ⟨j,hj⟩:=hc x g as (j7 cO)
       have hd:=mz (aH rs rs.length) g
       rw [hj] at hd
       have d3:q (.vw (.bl ((match ng (aH rs rs.length) g with | some j=>de rs S j | none=>false) && ib S n))):=hq
       rw [hj] at d3
       dsimp only at d3
       refine ⟨cz (by simp),rfl,rfl,rfl,_,rfl,rfl,_,rfl,_,mD cO,_,aq (j:=2) rfl,_,hd,rfl,rs,S,j,rfl,?_⟩
       cases hs:de rs S j with
       | false=>rw [hs] at d3; exact d3
       | true=>rw [hs] at d3; exact ⟨rfl,S,n,rfl,d3⟩
   | _ =>
     refine ⟨_,aq (j:=0) rfl,rfl,_,rfl,_,hh,_,hg,?_⟩
     cases hv:l.getD h false with
     | false=>rw [hv] at hq; exact hq
     | true=>rw [hv] at hq; exact ⟨cz (by simp),rfl,rfl,rfl,S,n,rfl,hq⟩
noncomputable abbrev yG:List Str:=["layout","stays","place","row"]
theorem nB:aN yG ["layout","stays","place"] (ak iT):=⟨rfl,rfl,rfl,by decide +kernel,rfl,by decide +kernel,by decide +kernel⟩
theorem wB {f:Addr} {fd:FuncData} (D:Df K mg "left_row" iT ["layout","stays","place"] f fd) (M:Pr mg) (M1:Sa K bT):bY P w K mg base "left_row" ["layout","stays","place"] 1 (bQ K 3 (K3 bT)):=by
 refine D.i5 (jJ D.F nB rfl fun bO A outer s H E Ox hr ts q hG=>?_)
 have nd:=nB.nd
 have hu:=bA.fu hr
 have np:∀ {i:Nat},a9 ⟨H,[],Ox⟩ i:=n5
 have aE:=M1
 refine ⟨_,(ag (ba (i:=3) nd rfl (Or.inl rfl) (VP.vx (aS (VP.vr (iL aE.cl aE.eF (aa 0))) (aa 2))) np)
   (ag (aY (dH (aS (aa 1) (aa 2)))
     (ah (aD (VP.vx (VE.vp (aj 3)))))
     aB)
   (ag (aY (VW.vc (du (bB hu (VP.vr (aS (aa 3) (VP.vr af))) (VP.vr ay)) (cS (dH (aS (aa 1) (VP.vr (aS (VP.vr (iL aE.cl aE.Ac (aa 0))) (aa 2))))))))
     (ah (aD (VP.vx (bw (ae (VP.ve ay) (ae (VP.ve af) ai))))))
     aB)
   (ah (aD (VP.vx (bw (ae (VP.ve ay) ai)))))))),fun _=>?_⟩
 obtain ⟨rs,l,n,r,rfl,cO,hl,W,hq⟩:=hG
 have gz:n < rs.length:=(cn.mp cO).1
 have hg:=getD_map (l:=l) (n:=n) (by rw [hl]; exact gz)
 unfold cq at hq
 refine ⟨rfl,_,rfl,_,mD cO,_,hg,?_⟩
 cases hv:l.getD n false with
 | true=>rw [hv] at hq; exact hq
 | false =>
   rw [hv] at hq
   cases r with
   | give a =>
     obtain ⟨h,eh⟩:=Jv W gz cO
     have hh:=NM gz
     rw [eh] at hh
     have hg2:=getD_map (l:=l) (n:=h) (by rw [hl]; exact U6 (Sd eh) gz)
     unfold Fd at hq
     rw [eh] at hq
     refine ⟨_,aq (j:=0) rfl,?_⟩
     refine ⟨rfl,_,rfl,_,hh,_,hg2,?_⟩
     have d3:q (.vw (ax (if l.getD h false=true then .give (.nu 0) else .skip))):=hq
     cases hs:l.getD h false with
     | _=>rw [hs] at d3; exact ⟨cz (by simp),d3⟩
   | _=>exact ⟨_,aq (j:=0) rfl,cz (by simp),hq⟩
noncomputable abbrev NU:List Str:=["program","rows","layout","stays","place"]
theorem Ag:aN NU ["program","rows"] (ak t_):=⟨rfl,rfl,rfl,by decide +kernel,rfl,by decide +kernel,by decide +kernel⟩
theorem yH:((["program","rows","layout","stays","#place"]:List Str) ++ (["place"]:List Str)).Nodup:=by decide +kernel
theorem Jx {f:Addr} {fd:FuncData} (D:Df K mg "only" t_ ["program","rows"] f fd) (M:Pr mg) (Fl:NB P w K mg base "Layout" bT ["self","program"] 2 1 (Ad bT)) (wC:bY P w K mg base "does_stay" ["layout","rows","stays","place"] 3 (bQ K 4 (sd bT))) (yI:bY P w K mg base "left_row" ["layout","stays","place"] 1 (bQ K 3 (K3 bT))):bY P w K mg base "only" ["program","rows"] 4 (bQ K 2 K4):=by
 obtain ⟨Sg,Pt,Fm,Fo,Fp,Fq⟩:=Fl
 obtain ⟨K7,Jy,wD,wF,wG,wH⟩:=wC
 obtain ⟨NV,K8,yJ,yK,yL,yM⟩:=yI
 refine D.i5 (jJ D.F Ag rfl fun bO A outer s H E Ox hr ts q hG=>?_)
 have nd:=Ag.nd
 have np:∀ {i:Nat},a9 ⟨H,[],Ox⟩ i:=n5
 refine ⟨_,(ag (ba (i:=2) nd rfl (Or.inr rfl) (VP.vx (I8 Fm Fq (hr.mono (by decide)) (by rfl) Fo Fp (ae (aj 0) ai))) np)
   (ag (c6 (i:=3) nd rfl (Or.inr rfl) (VP.vx (cg ai)) np)
   (ag (dM zk rfl (d8 (by rfl) M.range (VP.vr (aG aI aJ (by rfl) M.len jd (ar (aa 0) az)))) (aV (i:=4) nd rfl (Or.inl rfl) np)
     (ah (bp (fZ 3 xF xG bx br (ae (VP.ve (hX wH (hr.mono (by decide)) (by rfl) wD wF wG (ar (aa 2) (ar (aa 1) (ar (aa 3) (ar (aa 4) az)))))) ai)))))
   (ah (tW 4 "#place" np (aD (VP.vx (dN (ts:=["place"]) rfl (by rfl) (d8 (by rfl) M.range (VP.vr (aG aI aJ (by rfl) M.len jd (ar (aa 0) az)))) (fun _ _ _ _ _ _=>(aV (i:=5) yH rfl (Or.inl rfl) np)) (fun _ _ _ _ _ _=>di) (fun _ _ _ _ _ _=>(VP.ve (hX yM (hr.mono (by decide)) (by rfl) yJ yK yL (ar (aa 2) (ar (aa 3) (ar (aa 5) az)))))))))))))),fun _=>?_⟩
 obtain ⟨rs,S,rfl,W,hn,hc,hq⟩:=hG
 refine ⟨rfl,rs,rfl,W,hn,?_⟩
 refine ⟨cz (by simp),?_⟩
 have hlen:((rs.map ax).length:Int)=(rs.length:Int):=by rw [b_]
 have A_ : -(2 ^ 62)≤((rs.map ax).length:Int):=by omega
 have yq:((rs.map ax).length:Int) < 2 ^ 62:=by omega
 refine ⟨A_,yq,?_⟩
 rw [hlen,lU]
 refine ki (fun k ρ=>∃ b,ρ=[some (.lst (rs.map ax),false),some (.int S,false),some (BF bT rs,false),some (.lst ((bC rs S k).map .bl),true),b]) ⟨_,rfl⟩ ?_ ?_
 · rintro k ρ hk ⟨b,rfl⟩
   rw [O5]
   have cO:rs[k]?=some rs[k]:=fD hk
   refine ⟨rfl,rs,S,bC rs S k,k,rs[k],rfl,cO,eG rs S k,hc,rfl,?_⟩
   refine ⟨?_,some (.int (k:Int),false),?_⟩
   · rw [b_,eG,sizeLine_eq]; omega
   · simp only [bC,cO,xx,g9,Cs]
     rfl
 · rintro ρ ⟨b,rfl⟩
   refine ⟨rfl,A_,yq,?_⟩
   rw [hlen,lU]
   refine ⟨by rw [dv]; exact cz (by omega),?_⟩
   refine gM (u:=fun i=>match rs[i]? with | some r=>ax (cq rs (bC rs S rs.length) i r) | none=>.bb) (fun i hi r hr=>?_) ?_
   · rw [O5]
     have cO:rs[i]?=some rs[i]:=fD hi
     rw [cO] at hr
     exact ⟨rfl,rs,bC rs S rs.length,i,rs[i],rfl,cO,eG rs S _,W,vG _,hr⟩
   · have e:((List.range rs.length).map fun i=>match rs[i]? with | some r=>ax (cq rs (bC rs S rs.length) i r) | none=>T.bb)=(aT rs S).map ax:=by
      refine Gy fun i=>?_
      unfold aT
      rw [gw,gw,PQ]
      by_cases hi:i < rs.length
      · rw [Gv hi,fD hi]; simp [hi]
      · rw [xH (by simp; omega),xH (by omega)]; rfl
     rw [e]
     exact hq
end
end On
namespace VT
open PySem PySem.Spec PyProof.Rows
noncomputable def Pu {K:Type} [DecidableEq K] (l:List K) (v:K):List K:=if v∈l then l else l ++ [v]
noncomputable def met {K:Type} [DecidableEq K] (val:Nat→K):Nat→List K
 | 0=>[]
 | i+1=>Pu (met val i) (val i)
section
variable {K:Type} [DecidableEq K]
theorem Ah (val:Nat→K):∀ i,(met val i).length≤i
 | 0=>cA _
 | i+1=>by
   have:=Ah val i
   simp only [met,Pu]
   split
   · omega
   · rw [qd,List.length_singleton]; omega
theorem Jz {l:List K} {v k:K}:k∈Pu l v↔k∈l∨k=v:=by
 unfold Pu
 split
 · rename_i h
   exact ⟨.inl,fun q=>q.elim id fun e=>e▸h⟩
 · rw [g_,ou]
end
noncomputable abbrev gC (led:Bool):Obj:={ cls:=.type "set",dict:=none,data:=.set #[] 0 (.fresh 0 0 led) }
theorem sub_list_set:isSubtype (.type "list") (.type "set")=pure false:=by rw [isSubtype_type]; kernel_rfl
theorem sub_list_frozenset:isSubtype (.type "list") (.type "frozenset")=pure false:=by rw [isSubtype_type]; kernel_rfl
theorem sub_tuple_set:isSubtype (.type "tuple") (.type "set")=pure false:=by rw [isSubtype_type]; kernel_rfl
theorem sub_tuple_frozenset:isSubtype (.type "tuple") (.type "frozenset")=pure false:=by rw [isSubtype_type]; kernel_rfl
section
variable {prog:Program} {w:World} {A:Around} {R:Result→Shared→Prop} {I:Addr} {fp wr:List Addr} {G:Array GenState→Array GenState→Prop} {n:Nat} {P:Nat→Value→Prop} {St:Nat→Shared→Prop}
variable {K:Type} [DecidableEq K] {knd:PySem.KeyKind prog w K}
theorem se (W:WalksS prog w A.in1 I fp wr G n P St) (S:Addr) (Pw:S∉fp)
  (val:Nat→K) (I9:∀ i v,P i v→knd.is (val i) v=true∧v.scannable=true) (hb:n+1 < scanBound) :
  ∀ (k i:Nat) (s:Shared),n - i=k→i≤n→St i s →
   s.heap.SetOf knd S (fun k'=>decide (k'∈met val i)) (met val i).length →
   (∀ s',Moved (S :: wr) G s s'→s'.heap.SetOf knd S (fun k'=>decide (k'∈met val n)) (met val n).length→R (.ok (.ret .none)) s') →
   codeAny (model prog w) A (.builtin "set.update.loop" ⟨[.ref S,.ref I],[]⟩) R s:=by
 have hSw:S∉wr:=fun h=>Pw (W.sub _ h)
 have DU:∀ b∈wr,b∈S :: wr:=fun b hb=>jc _ hb
 intro k
 induction k with
 | zero =>
   intro i s hk hi xN hS hR
   have Nd:i=n:=by omega
   subst Nd
   refine codeAny_builtin PyProof.Rows.F.entry_set_update_loop ?_
   rw [Around.under_plainId V7 _]
   show wpAny _ A.in1 (pyNext (.ref I) >>= _) _ _ s
   refine wpAny_bind (W.done s _ _ xN fun s' hm=>?_)
   show wpAny _ A.in1 (ret Value.none) _ _ s'
   exact wpAny_pure (hR s' (hm.mono DU) (by
    obtain ⟨o,es,ep,t,ho,rest⟩:=hS
    exact ⟨o,es,ep,t,hm.heap S _ hSw ho,rest⟩))
 | succ k ih =>
   intro i s hk hi xN hS hR
   have gz:i < n:=by omega
   refine codeAny_builtin PyProof.Rows.F.entry_set_update_loop ?_
   rw [Around.under_plainId V7 _]
   show wpAny _ A.in1 (pyNext (.ref I) >>= _) _ _ s
   refine wpAny_bind (W.item i s _ _ gz xN fun v s' hP Yu hm=>?_)
   obtain ⟨Ii,MT⟩:=I9 i v hP
   have BI:s'.heap.SetOf knd S (fun k'=>decide (k'∈met val i)) (met val i).length:=by
    obtain ⟨o,es,ep,tb,ho,rest⟩:=hS
    exact ⟨o,es,ep,tb,hm.heap S _ hSw ho,rest⟩
   show wpAny _ A.in1 (holding [v] (setAdd S v) >>= _) _ _ s'
   refine wpAny_bind (wpAny_holding ?_)
   unfold setAdd
   refine wpAny_holding ?_
   refine wpAny_bind (knd.pyHash (k:=val i) Ii ?_)
   have Sh:(met val i).length+1 < scanBound:=by have:=Ah val i; omega
   refine wpAny_setAddHashed_of (knd:=knd) (s:={ s' with toks:=s'.toks+1 }) Ii MT BI Sh fun h' hsb hS2=>?_
   have hSi:h'.SetOf knd S (fun k'=>decide (k'∈met val (i+1))) (met val (i+1)).length :=
    SetOf_congr hS2 (fun k'=>by
     simp only [met,Jz,Bool.decide_or]) (by
     simp only [met,Pu,decide_eq_true_eq]
     split <;> simp)
   refine wpAny_pure ⟨plainId_quiet V7 _,ih (i+1) _ (by omega) gz (W.frame _ s' _ _ Yu (Lo _) fun b hb o e=>?_) hSi fun Qu Yv Yw=>?_⟩
   · rw [hsb.2 b (fun h:b=S=>Pw (by rw [← h]; exact hb))]; exact e
   · refine hR Qu (Moved.trans W.gtrans ((hm.mono DU).then_heap (Lo _) fun b o hb e=>?_) Yv) Yw
     rw [hsb.2 b (fun h:b=S=>hb (by rw [h]; exact iw))]; exact e
end
section
variable {prog:Program} {w:World} {A:Around} {E:Value→Shared→Prop} {s:Shared} {K:Type} [DecidableEq K] {knd:PySem.KeyKind prog w K}
theorem pv {l:Addr} {items:Array Value} {val:Nat→K} {Q:Value→Shared→Prop}
  (hh:A.handled=none) (hl:s.heap.IsList l items) (hi:∀ (i:Nat) (v:Value),items[i]?=some v→knd.is (val i) v=true∧v.scannable=true) (hb:items.size+1 < scanBound)
  (h:∀ (h':Heap) (tk:Nat),h'.SetOf knd s.heap.objs.size (fun k'=>decide (k'∈met val items.size)) (met val items.size).length →
    (∀ b o,b < s.heap.objs.size→s.heap.get? b=some o→h'.get? b=some o)→s.heap.objs.size < h'.objs.size→Q (.ref s.heap.objs.size) { s with heap:=h',toks:=tk }) :
  wpAny (model prog w) A (call (.type "set") [.ref l]) Q E s:=by
 obtain ⟨c,tl,Yx⟩:=xu.mro
 have Si:=xu.made
 have DU:=xu.sub
 refine wpAny_call (codeAny_of_tree ?_)
 show wpAny _ _ (callAny (.type "set") _) _ _ _
 refine wpAny_pure ⟨Code.quiet_builtin _ (by decide +kernel),codeAny_builtin F.entry_type_call ?_⟩
 rw [Around.under_plain (weight_type_call_type "set" [.ref l] []) rfl]
 have h1:=xu.notType
 have h2:=xu.canCreate
 have hct:=PySem.F.typeCall_set_1 (.ref l)
 repeat (any_goals (first | assumption | wp_step))
 refine codeAny_mono (code_set_new_1 (.ref l) (E:=E) (Q₁:=fun obj s₁=>∃ led:Bool,obj = .ref s.heap.objs.size∧s₁={ s with heap:=s.heap.push (gC led) }) fun led=>⟨led,rfl,rfl⟩) fun r s₁ hr=>?_
 cases r with
 | error e=>exact hr
 | ok fl =>
   cases fl with
   | ret obj =>
     obtain ⟨led,rfl,rfl⟩:=hr
     have hS:(s.heap.push (gC led)).get? s.heap.objs.size=some (gC led):=mZ _ rfl
     have hT:Shared.TypeIs { s with heap:=s.heap.push (gC led) } (.ref s.heap.objs.size) "set":=⟨_,hS,rfl⟩
     have hli:=xu.init.lookup
     have Xh:=xu.init.bind (.ref s.heap.objs.size)
     repeat (any_goals (first | assumption | wp_step))
     refine codeAny_mono (codeAny_call_builtin (R:=wants (fun r s₂=>r = .none∧∃ h' tk,s₂={ s with heap:=h',toks:=tk } ∧
       h'.SetOf knd s.heap.objs.size (fun k'=>decide (k'∈met val items.size)) (met val items.size).length ∧
       (∀ b o,b < s.heap.objs.size→s.heap.get? b=some o→h'.get? b=some o)) E) xu.init.plain PySem.F.entry_set_init (check_set_init_1 hT ?_)) fun r₂ s₂ NW=>?_
     · obtain ⟨ol,Io,Dm,nl,DQ⟩:=hl
       obtain ⟨Yy,Fs,Sj,yN⟩:=ol
       simp only at Dm DQ
       subst Dm; subst DQ
       have NX:(s.heap.push (gC led)).get? l=some { cls:=.type "list",dict:=Fs,data:=.seq items nl,slots:=yN }:=fF _ Io
       have Yz:=sub_list_set
       have YA:=sub_list_frozenset
       have gG:(Value.type "list" == Value.type "dict")=false:=by decide
       have Jg:(s.heap.push (gC led)).IsList l items:=⟨_,NX,rfl,nl,rfl⟩
       unfold Builtin.«set.__init__» noKeywords Builtin.Frozenset.updateFrom
       generalize YB:pyIter=PI
       wp_walk
       subst YB
       refine wpAny_pyIter_list Jg ?_
       refine wpAny_bind (wpAny_runValue ?_)
       have Sk:l < s.heap.objs.size:=fM Io
       have YC:A.in1.in1.in1.handled=none:=by simp [hh]
       have NY:l≠(s.heap.push (gC led)).objs.size:=by
        rw [xy]; exact je (GX Sk)
       have Pw:s.heap.objs.size∉[(s.heap.push (gC led)).objs.size,l]:=by
        rw [xy]; simp only [cZ,ou,fG,or_false,not_or]
        exact ⟨je (xv _),Gz Sk⟩
       refine se ((Walks.list YC _ l NY items).toS) s.heap.objs.size
        Pw val hi hb (items.size - 0) 0 _ (by omega) (qe _)
        ⟨⟨_,mZ _ rfl,rfl,rfl⟩,(Jg.push _)⟩ ?hS0 ?hR
       case hS0 =>
        have NZ:((s.heap.push (gC led)).push { cls:=.type "list_iterator",data:=.fields #[.ref l,.int 0 0] }).get? s.heap.objs.size
          = some (gC led):=fF _ hS
        exact SetOf_congr ((setObjOf_fresh (knd:=knd) led).setOf NZ (by unfold scanBound; omega)) (fun _=>by simp [met]) rfl
       case hR =>
        intro s' hm BI
        obtain ⟨h',g',d',YD,Qr⟩:=s'
        have eg:g'=s.gens:=hm.gens
        have ed:d'=s.drawn:=hm.drawn
        have eo:Qr=s.os:=hm.os
        subst eg; subst ed; subst eo
        show wpAny _ _ _ _ _ _
        refine wpAny_pure ?_
        show wpAny _ _ (ret Value.none) _ _ _
        refine wpAny_pure ⟨rfl,h',YD,rfl,BI,fun b o hb e=>?_⟩
        have A_:b≠s.heap.objs.size:=je hb
        have yq:b≠(s.heap.push (gC led)).objs.size:=by
         rw [xy]; exact je (GX hb)
        exact hm.heap b o (by simp only [cZ,ou,fG,or_false,not_or]; exact ⟨A_,yq⟩) (fF _ (fF _ e))
     · cases r₂ with
       | error e=>exact NW
       | ok YE =>
         cases YE with
         | ret r =>
           obtain ⟨rfl,h',tk,rfl,BI,CD⟩:=NW
           repeat (any_goals (first | assumption | wp_step))
           refine h _ _ BI CD ?_
           obtain ⟨o,_,_,_,ho,_⟩:=BI
           exact fM ho
         | _=>exact NW.elim
   | _=>exact hr.elim
theorem nQ {l:Addr} {items:Array Value} {val:Nat→K} {Q:Value→Shared→Prop}
  (hh:A.handled=none) (hl:s.heap.IsTuple l items) (hi:∀ (i:Nat) (v:Value),items[i]?=some v→knd.is (val i) v=true∧v.scannable=true) (hb:items.size+1 < scanBound)
  (h:∀ (h':Heap) (tk:Nat),h'.SetOf knd s.heap.objs.size (fun k'=>decide (k'∈met val items.size)) (met val items.size).length →
    (∀ b o,b < s.heap.objs.size→s.heap.get? b=some o→h'.get? b=some o)→s.heap.objs.size < h'.objs.size→Q (.ref s.heap.objs.size) { s with heap:=h',toks:=tk }) :
  wpAny (model prog w) A (call (.type "set") [.ref l]) Q E s:=by
 obtain ⟨c,tl,Yx⟩:=xu.mro
 have Si:=xu.made
 have DU:=xu.sub
 refine wpAny_call (codeAny_of_tree ?_)
 show wpAny _ _ (callAny (.type "set") _) _ _ _
 refine wpAny_pure ⟨Code.quiet_builtin _ (by decide +kernel),codeAny_builtin F.entry_type_call ?_⟩
 rw [Around.under_plain (weight_type_call_type "set" [.ref l] []) rfl]
 have h1:=xu.notType
 have h2:=xu.canCreate
 have hct:=PySem.F.typeCall_set_1 (.ref l)
 repeat (any_goals (first | assumption | wp_step))
 refine codeAny_mono (code_set_new_1 (.ref l) (E:=E) (Q₁:=fun obj s₁=>∃ led:Bool,obj = .ref s.heap.objs.size∧s₁={ s with heap:=s.heap.push (gC led) }) fun led=>⟨led,rfl,rfl⟩) fun r s₁ hr=>?_
 cases r with
 | error e=>exact hr
 | ok fl =>
   cases fl with
   | ret obj =>
     obtain ⟨led,rfl,rfl⟩:=hr
     have hS:(s.heap.push (gC led)).get? s.heap.objs.size=some (gC led):=mZ _ rfl
     have hT:Shared.TypeIs { s with heap:=s.heap.push (gC led) } (.ref s.heap.objs.size) "set":=⟨_,hS,rfl⟩
     have hli:=xu.init.lookup
     have Xh:=xu.init.bind (.ref s.heap.objs.size)
     repeat (any_goals (first | assumption | wp_step))
     refine codeAny_mono (codeAny_call_builtin (R:=wants (fun r s₂=>r = .none∧∃ h' tk,s₂={ s with heap:=h',toks:=tk } ∧
       h'.SetOf knd s.heap.objs.size (fun k'=>decide (k'∈met val items.size)) (met val items.size).length ∧
       (∀ b o,b < s.heap.objs.size→s.heap.get? b=some o→h'.get? b=some o)) E) xu.init.plain PySem.F.entry_set_init (check_set_init_1 hT ?_)) fun r₂ s₂ NW=>?_
     · obtain ⟨ol,Io,Dm,nl,DQ⟩:=hl
       obtain ⟨Yy,Fs,Sj,yN⟩:=ol
       simp only at Dm DQ
       subst Dm; subst DQ
       have NX:(s.heap.push (gC led)).get? l=some { cls:=.type "tuple",dict:=Fs,data:=.seq items nl,slots:=yN }:=fF _ Io
       have Yz:=sub_tuple_set
       have YA:=sub_tuple_frozenset
       have gG:(Value.type "tuple" == Value.type "dict")=false:=by decide
       have Jg:(s.heap.push (gC led)).IsTuple l items:=⟨_,NX,rfl,nl,rfl⟩
       unfold Builtin.«set.__init__» noKeywords Builtin.Frozenset.updateFrom
       generalize YB:pyIter=PI
       wp_walk
       subst YB
       refine wpAny_pyIter_tuple Jg ?_
       refine wpAny_bind (wpAny_runValue ?_)
       have Sk:l < s.heap.objs.size:=fM Io
       have YC:A.in1.in1.in1.handled=none:=by simp [hh]
       have NY:l≠(s.heap.push (gC led)).objs.size:=by
        rw [xy]; exact je (GX Sk)
       have Pw:s.heap.objs.size∉[(s.heap.push (gC led)).objs.size,l]:=by
        rw [xy]; simp only [cZ,ou,fG,or_false,not_or]
        exact ⟨je (xv _),Gz Sk⟩
       refine se ((Walks.tuple YC _ l NY items).toS) s.heap.objs.size
        Pw val hi hb (items.size - 0) 0 _ (by omega) (qe _)
        ⟨⟨_,mZ _ rfl,rfl,rfl⟩,(Jg.push _)⟩ ?hS0 ?hR
       case hS0 =>
        have NZ:((s.heap.push (gC led)).push { cls:=.type "tuple_iterator",data:=.fields #[.ref l,.int 0 0] }).get? s.heap.objs.size
          = some (gC led):=fF _ hS
        exact SetOf_congr ((setObjOf_fresh (knd:=knd) led).setOf NZ (by unfold scanBound; omega)) (fun _=>by simp [met]) rfl
       case hR =>
        intro s' hm BI
        obtain ⟨h',g',d',YD,Qr⟩:=s'
        have eg:g'=s.gens:=hm.gens
        have ed:d'=s.drawn:=hm.drawn
        have eo:Qr=s.os:=hm.os
        subst eg; subst ed; subst eo
        show wpAny _ _ _ _ _ _
        refine wpAny_pure ?_
        show wpAny _ _ (ret Value.none) _ _ _
        refine wpAny_pure ⟨rfl,h',YD,rfl,BI,fun b o hb e=>?_⟩
        have A_:b≠s.heap.objs.size:=je hb
        have yq:b≠(s.heap.push (gC led)).objs.size:=by
         rw [xy]; exact je (GX hb)
        exact hm.heap b o (by simp only [cZ,ou,fG,or_false,not_or]; exact ⟨A_,yq⟩) (fF _ (fF _ e))
     · cases r₂ with
       | error e=>exact NW
       | ok YE =>
         cases YE with
         | ret r =>
           obtain ⟨rfl,h',tk,rfl,BI,CD⟩:=NW
           repeat (any_goals (first | assumption | wp_step))
           refine h _ _ BI CD ?_
           obtain ⟨o,_,_,_,ho,_⟩:=BI
           exact fM ho
         | _=>exact NW.elim
   | _=>exact hr.elim
end
end VT
namespace VT
open PySem PySem.Spec PyProof.Rows L2
noncomputable def N0 (P:Program) (w:World) (a:Addr) (f:Str→Bool) (n:Nat):HO:=.ext fun h=>h.SetOf (PySem.strKind P w) a f n
noncomputable def once (ys:List Str):List Str:=met (fun i=>ys.getD i Str.empty) ys.length
section
variable {X:Cx}
theorem sf {ys:List Str} {aP:List Value} (r:Vals (ys.map V.str) aP) (i:Nat) (v:Value) (h:aP.toArray[i]?=some v):(PySem.strKind X.prog X.w).is (ys.getD i Str.empty) v=true∧v.scannable=true:=by
 have h':aP[i]?=some v:=by simpa using h
 have hl:=r.length
 rw [b_] at hl
 have hi:i < ys.length:=by have:=(cn.mp h').1; omega
 obtain ⟨u,hu,ru⟩:=r.get (show (ys.map V.str)[i]?=some (.str ys[i]) by rw [gw,fD hi]; rfl)
 rw [h'] at hu
 cases hu
 obtain ⟨t,rfl⟩:=ru
 refine ⟨?_,rfl⟩
 rw [UW,fD hi]
 show Value.isStrOf ys[i] (.str ys[i] t)=true
 simp [Value.isStrOf]
theorem qK (hc:X.calm=true):c8 X (.type "set") (fun xs H Q=>∃ (p:Addr) (ys:List Str),xs=[.ref p]∧(gy X.K H p (ys.map V.str)∨dZ X.K H p (ys.map V.str))∧ys.length < 4000 ∧
  ∀ a,H a=none→Q (.ref a) (upd H a (N0 X.prog X.w a (fun k=>decide (k∈once ys)) (once ys).length))):=by
 intro pins s σ H xs us Q I r h
 obtain ⟨p,ys,rfl,hq,hl,q⟩:=h
 obtain ⟨u,rfl,ru⟩:=vals1 r
 cases ru
 have fin:∀ (n:Nat),n=ys.length→∀ (h':Heap) (tk:Nat),h'.SetOf (PySem.strKind X.prog X.w) s.heap.objs.size (fun k'=>decide (k'∈met (fun i=>ys.getD i Str.empty) n)) (met (fun i=>ys.getD i Str.empty) n).length →
   (∀ b o,b < s.heap.objs.size→s.heap.get? b=some o→h'.get? b=some o)→EP X pins σ Q (.ref s.heap.objs.size) { s with heap:=h',toks:=tk }:=fun n hn h' tk hS hk=>by
  subst hn
  refine ⟨.ref s.heap.objs.size,_,I.laid (a:=s.heap.objs.size) (t':=tk) (fun b o e=>hk b o (fM e) e) (cA _) ?_,rfl,q _ I.fresh⟩
  refine ⟨hS,?_,fun h1 h2 z k=>?_⟩
  · obtain ⟨o,_,_,_,ho,_⟩:=hS
    exact ⟨o,ho⟩
  · obtain ⟨o,es,ep,t,ho,rest⟩:=z
    exact ⟨o,es,ep,t,k o ho,rest⟩
 rcases hq with hq | hq
 · obtain ⟨aP,rv,pl,hz⟩:=I.list hq
   have e:=rv.length
   rw [b_] at e
   exact pv (knd:=PySem.strKind X.prog X.w) (val:=fun i=>ys.getD i Str.empty) (I.ok.hd hc) pl.isList (sf rv) (by unfold scanBound; simp; omega) fun h' tk hS hk _=>fin _ (by simp [e]) h' tk hS hk
 · obtain ⟨aP,rv,pl,hz⟩:=I.tuple hq
   have e:=rv.length
   rw [b_] at e
   exact nQ (knd:=PySem.strKind X.prog X.w) (val:=fun i=>ys.getD i Str.empty) (I.ok.hd hc) (show s.heap.IsTuple p aP.toArray from pl) (sf rv) (by unfold scanBound; simp; omega) fun h' tk hS hk _=>fin _ (by simp [e]) h' tk hS hk
theorem qL:c8 X (.builtin "len") (fun xs H Q=>∃ a f n,xs=[.ref a]∧H a=some (N0 X.prog X.w a f n)∧Q (.int (n:Int)) H):=by
 intro pins s σ H xs us Q I r h
 obtain ⟨a,f,n,rfl,ha,q⟩:=h
 obtain ⟨u,rfl,ru⟩:=vals1 r
 cases ru
 obtain ⟨⟨o,es,ep,t,ho,hex,hd,_,_,hb,hf,hn⟩,_⟩:=(show bX X.prog X.w H s.heap a (N0 X.prog X.w a f n) from I.bV a _ ha)
 refine PySem.call_len_set ho hex hd hf (by unfold scanBound at hb; omega) ?_
 rw [hn]
 exact ⟨.int n,H,I.tok _,⟨_,rfl⟩,q⟩
theorem boot_set:bootBuiltins "set" = some (.type "set"):=by decide +kernel
end
section
variable {X:Cx} {Z:Zc} {a:Expr} {fa:FE} {p1 p2 Br qH:Pos}
noncomputable def JA (fa:FE):FP:=fun ρ Q=>fa ρ fun x=>∃ ys:List Str,(x = .lst (ys.map .str)∨x = .tup (ys.map .str))∧ys.length < 4000∧Q (.vw (.int ((once ys).length:Int)))
theorem uc {K:PySem.W.Frag} {H:Hp} {A:List Addr}:∀ {ys:List Str} {vs:List V},aA K H A (ys.map T.str) vs→vs=ys.map V.str
 | [],vs,h=>by simpa only [Cs,aA] using h
 | y :: ys,vs,h=>by
   simp only [g9,aA] at h
   obtain ⟨v,r,rfl,h1,h2⟩:=h
   simp only [At] at h1
   rw [h1,uc h2]
   rfl
theorem BJ (hc:X.calm=true) (NC:Gl X "len") (Yb:X.mg "len" = none) (hgs:Gl X "set") (Ym:X.mg "set" = none) (ha:VR X Z a fa)
  (he:starEach [.Call (.Name "set" p2) [a] [] qH] X.env=(false,eval (.Call (.Name "set" p2) [a] [] qH) X.env) :: starEach [] X.env:=by rfl) (jg:(backTo Br (starEach [] X.env)).any (·.1)=false:=by rfl)
  (he2:starEach [a] X.env=(false,eval a X.env) :: starEach [] X.env:=by rfl) (N1:(backTo qH (starEach [] X.env)).any (·.1)=false:=by rfl) :
  VP X Z (.Call (.Name "len" p1) [.Call (.Name "set" p2) [a] [] qH] [] Br) (JA fa):=.mk fun tm =>
 PE.weak (kJ qL NC Yb jd (bS (rB (qK hc) hgs Ym boot_set (bS (ha tm) d6 he2) (by decide) (by decide) he2 N1) d6 he) (by decide) (by decide) he jg) fun σ H Q ⟨ρ,O,q,I,hf,k⟩ =>
  ⟨ρ,O,_,I,hf,fun x hx v H1 s1 a1=>by
    obtain ⟨ys,hy,hl,hq⟩:=hx
    have src:∃ p,v = .ref p∧(gy X.K H1 p (ys.map V.str)∨dZ X.K H1 p (ys.map V.str)):=by
     rcases hy with rfl | rfl
     · obtain ⟨p,vs,rfl,h1,h2⟩:=a1.lst
       rw [uc h2] at h1
       exact ⟨p,rfl,.inl h1⟩
     · obtain ⟨p,vs,rfl,h1,h2⟩:=a1.tup
       rw [uc h2] at h1
       exact ⟨p,rfl,.inr h1⟩
    obtain ⟨p,rfl,hs⟩:=src
    exact ⟨p,ys,rfl,hs,hl,fun b hb=>⟨b,_,_,rfl,a_,k _ hq _ _ (s1.trans (aU hb)) ⟨(I.same s1).same (aU hb),bG⟩⟩⟩⟩
end
end VT
namespace cP
open PySem L2 VT Gen Dr
noncomputable def top (i:Nat):Stmt:=PySem.Challenge.pw_slicewise_k51_all_and_none.main.body.getD i (.Pass ⟨0,0,0,0⟩)
noncomputable abbrev eZ:Stmt:=top 14
noncomputable abbrev ip:Stmt:=top 15
noncomputable abbrev fJ:Stmt:=top 16
noncomputable abbrev iU:Stmt:=top 17
noncomputable abbrev lg:Stmt:=top 18
structure V0 (mg:Str→Option Value):Prop where
 H:∃ t,mg "H" = some (.int 1000000000000000000000000000000 t)
 JB:∃ t,mg "LETTERS" = some (.str bF t)
 ud:∃ t,mg "LONGEST_NAME" = some (.int 8 t)
 isinstance:mg "isinstance" = none
 int:mg "int" = none
 bool:mg "bool" = none
 str:mg "str" = none
 len:mg "len" = none
 all:mg "all" = none
theorem cz {n:Nat} (h:n≤1000):n≤sizeLine:=small h
noncomputable def lh:T→Bool
 | .lst _=>false
 | .dk _ _=>false
 | .dt _ _=>false
 | .df _ _ _=>false
 | .dz _ _ _=>false
 | .kt _=>false
 | .ins _ _ _=>false
 | .pin _ _=>false
 | .ob _=>false
 | .ty _=>false
 | _=>true
noncomputable def Sl:T→Bool
 | .int i=>decide (-1000000000000000000000000000000≤i) && decide (i < 1000000000000000000000000000000)
 | _=>false
noncomputable def e6:T→Bool
 | .str x=>dy x
 | _=>false
noncomputable def Sm (ts:List T) (q:Rt→Prop):Prop:=∃ t,ts=[t]∧lh t=true∧q (.vw (.bl (Sl t)))
noncomputable def jf (ts:List T) (q:Rt→Prop):Prop:=∃ t,ts=[t]∧lh t=true∧(∀ x,t = .str x→x.length≤1000)∧q (.vw (.bl (e6 t)))
noncomputable def Ft (r:Rt) (A:Prop) (B:Prop):Prop:=match r with
 | .vw (.bl true)=>A
 | .vw (.bl false)=>B
 | _=>False
theorem Fu {c d:Bool} {q:Rt→Prop} (h:q (.vw (.bl (c && d)))):Ft (.vw (.bl c)) (q (.vw (.bl d))) (q (.vw (.bl false))):=by
 cases c with
 | _=>exact h
theorem wI {c:Bool} {A B:Prop} (h1:c=true→A) (h2:c=false→B):Ft (.vw (.bl c)) A B:=by
 cases c with
 | true=>exact h1 rfl
 | false=>exact h2 rfl
theorem Ai:∀ l:List Nat,cf (l.map ((fun t:T=>match t with | .str y=>.bl (zN y bF) | _=>.bb) ∘ fun c=>T.str ⟨#[c]⟩))=some (l.map GI)
 | []=>rfl
 | c :: l=>by
   rw [g9,g9]
   show (cf _).map _=_
   rw [Ai l]
   rfl
section
variable {P:Program} {w:World} {K:PySem.W.Frag} {mg:Str→Option Value} {base:Heap}
noncomputable abbrev nC:List Str:=["thing"]
theorem lj:aN nC ["thing"] (ak eZ):=⟨rfl,rfl,rfl,by decide +kernel,rfl,by decide +kernel,by decide +kernel⟩
theorem mw {f:Addr} {fd:FuncData} (D:Df K mg "is_number" eZ ["thing"] f fd) (M:V0 mg):bY P w K mg base "is_number" ["thing"] 1 (bQ K 1 Sm):=by
 refine D.i5 (jJ D.F lj rfl fun bO A outer s H E Ox hr ts q hG=>?_)
 have nd:=lj.nd
 obtain ⟨tH,mH⟩:=M.H
 have g_H:∀ {pos},VP (iA jk P w K mg base nC "is_number" (ak eZ) f bO A outer s H E).uW ⟨H,[],Ox⟩ (.Name "H" pos) (fC (.int 1000000000000000000000000000000)):=eV (by rfl) mH (v:=.int 1000000000000000000000000000000) ⟨tH,rfl⟩ fun _ _=>bG
 refine ⟨_,(ah (aD (VP.vx (oG (iJ DI (by rfl) M.isinstance (by rfl) M.int Rl (aa 0)) (oG (Ml (iJ A4 (by rfl) M.isinstance (by rfl) M.bool MY (aa 0))) (kc (DM CZ Kk (VP.vr (gW (VP.vr g_H))) (aa 0) (VP.vr g_H)))))))),fun _=>?_⟩
 obtain ⟨t,rfl,ht,hq⟩:=hG
 cases t with
 | bb=>exact ⟨rfl,hq⟩
 | bl b=>exact ⟨rfl,rfl,hq⟩
 | str x=>exact ⟨rfl,hq⟩
 | tup l=>exact ⟨rfl,hq⟩
 | int i =>
   refine ⟨rfl,rfl,?_⟩
   have d3:q (.vw (.bl (decide (-1000000000000000000000000000000≤i) && decide (i < 1000000000000000000000000000000)))):=hq
   exact Fu (c:=decide (-1000000000000000000000000000000≤i)) d3
 | _=>cases ht
noncomputable abbrev mI:List Str:=["thing"]
theorem pw:aN mI ["thing"] (ak ip):=⟨rfl,rfl,rfl,by decide +kernel,rfl,by decide +kernel,by decide +kernel⟩
theorem qM:(mI ++ (["sign"]:List Str)).Nodup:=by decide +kernel
theorem JC {f:Addr} {fd:FuncData} (D:Df K mg "is_name" ip ["thing"] f fd) (M:V0 mg):bY P w K mg base "is_name" ["thing"] 1 (bQ K 1 jf):=by
 refine D.i5 (jJ D.F pw rfl fun bO A outer s H E Ox hr ts q hG=>?_)
 have nd:=pw.nd
 have np:∀ {i:Nat},a9 ⟨H,[],Ox⟩ i:=n5
 obtain ⟨tL,mL⟩:=M.JB
 obtain ⟨tN,mN⟩:=M.ud
 have pA:∀ {pos},VP (iA jk P w K mg base mI "is_name" (ak ip) f bO A outer s H E).uW ⟨H,[],Ox⟩ (.Name "LONGEST_NAME" pos) (fC (.int 8)):=eV (by rfl) mN (v:=.int 8) ⟨tN,rfl⟩ fun _ _=>bG
 refine ⟨_,(ag (aY (VW.vc (jY (fq (dH (iJ oW (by rfl) M.isinstance (by rfl) M.str DP (aa 0)))) (iF (fq (DN CZ CZ (VP.vr af) (VP.vr (aG aI aJ (by rfl) M.len jd (ar (aa 0) az))) (VP.vr pA))))))
    (ah (aD (VP.vx hU)))
    aB)
   (ah (aD (VP.vx (aG (dG rfl) jI (by rfl) M.all zP (ar (VP.vr (dN (ts:=["sign"]) rfl (by rfl) (jo (aj 0)) (fun _ _ _ _ _ _=>(aV (i:=1) qM rfl (Or.inl rfl) np)) (fun _ _ _ _ _ _=>di) (fun _ _ _ _ _ _=>(VP.ve (Kz (aa 1) (VP.vr (eV (by rfl) mL (v:=.str bF) ⟨tL,rfl⟩ fun _ _=>bJ))))))) az)))))),fun _=>?_⟩
 obtain ⟨t,rfl,ht,hx,hq⟩:=hG
 cases t with
 | bb=>exact ⟨rfl,hq⟩
 | bl b=>exact ⟨rfl,hq⟩
 | int x=>exact ⟨rfl,hq⟩
 | tup l=>exact ⟨rfl,hq⟩
 | str x =>
   have hl:=hx x rfl
   have d3:q (.vw (.bl (decide (1≤(x.length:Int)) && (decide ((x.length:Int)≤8) && x.cps.toList.all GI)))):=hq
   refine ⟨rfl,cz hl,wI (c:=decide (1≤(x.length:Int))) (fun h1=>?_) (fun h1=>?_)⟩
   · rw [h1,uN] at d3
     refine nK (fun h2=>?_) (fun h2=>?_)
     · have MU:(!decide ((x.length:Int)≤8))=true:=h2
       have h3:decide ((x.length:Int)≤8)=false:=by simpa using MU
       rw [h3,Cq] at d3
       exact d3
     · have MU:¬ (!decide ((x.length:Int)≤8))=true:=h2
       have h3:decide ((x.length:Int)≤8)=true:=by simpa using MU
       rw [h3,uN] at d3
       refine ⟨rfl,by rw [b_,OR]; exact cz hl,mh (fun _=>true) (fun t=>match t with | .str y=>.bl (zN y bF) | _=>.bb) (fun t ht k r h=>?_) ?_⟩
       · obtain ⟨c,_,rfl⟩:=uO.mp ht
         exact ⟨_,rfl,h⟩
       · rw [List.filter_eq_self.mpr (fun _ _=>rfl),GA]
         refine ⟨x.cps.toList.map GI,Ai x.cps.toList,?_⟩
         rw [List.all_map]
         exact d3
   · rw [h1,Cq] at d3
     exact d3
 | _=>cases ht
end
noncomputable def iV (t:T):Bool:=e6 t || Sl t
noncomputable def Fv (ts:List T) (q:Rt→Prop):Prop:=∃ t,ts=[t]∧lh t=true∧(∀ x,t = .str x→x.length≤1000)∧q (.vw (.bl (iV t)))
section
variable {P:Program} {w:World} {K:PySem.W.Frag} {mg:Str→Option Value} {base:Heap}
noncomputable abbrev ue:List Str:=["thing"]
theorem j2:aN ue ["thing"] (ak fJ):=⟨rfl,rfl,rfl,by decide +kernel,rfl,by decide +kernel,by decide +kernel⟩
theorem kn {f:Addr} {fd:FuncData} (D:Df K mg "is_operand" fJ ["thing"] f fd) (c1:bY P w K mg base "is_name" ["thing"] 1 (bQ K 1 jf)) (c2:bY P w K mg base "is_number" ["thing"] 1 (bQ K 1 Sm)):bY P w K mg base "is_operand" ["thing"] 2 (bQ K 1 Fv):=by
 obtain ⟨mJ,kr,eI,eJ,eK,eO⟩:=c1
 obtain ⟨K9,JD,wJ,wK,wL,wM⟩:=c2
 refine D.i5 (jJ D.F j2 rfl fun bO A outer s H E Ox hr ts q hG=>?_)
 have nd:=j2.nd
 refine ⟨_,(ah (aD (VP.vx (zE (aK eO (hr.mono (by decide)) (by rfl) eI eJ eK (ae (aj 0) ai)) (kc (aK wM (hr.mono (by decide)) (by rfl) wJ wK wL (ae (aj 0) ai))))))),fun _=>?_⟩
 obtain ⟨t,rfl,ht,hx,hq⟩:=hG
 unfold iV at hq
 refine ⟨rfl,t,rfl,ht,hx,wI (c:=e6 t) (fun h=>?_) (fun h=>⟨rfl,t,rfl,ht,?_⟩)⟩
 · rw [h,Ln] at hq; exact hq
 · rw [h,PY] at hq; exact hq
end
end cP
namespace VT
open PySem PySem.Spec PyProof.Rows L2
section
variable {X:Cx} {Z:Zc} {k n:Nat} {x:Str} {p pos:Pos} {e:Expr} {es:List Expr} {g:FA}
noncomputable abbrev GV:=List T→(Rt→Prop)→Prop
noncomputable def Fw (i n:Nat) (g:FA) (Fn:Addr→GV→Prop):FP:=fun ρ Q=>match ρ[i]? with
 | some (some (.ob f,false))=>∃ G,Fn f G∧g ρ fun ts=>ts.length=n∧G ts Q
 | _=>False
theorem Fx (i:Nat) {Fn:Addr→GV→Prop} (C:∀ f G,Fn f G→PySem.W.keepIn X.K (.ref f)=true∧∃ fd ps,Binds X.K fd ps []∧d0 X.prog X.w X.K X.mg X.base jk k f fd ps (bQ X.K n G)) (hr:bA k X.A) (ha:VA X Z (e :: es) g)
  (hN:X.N[i]?=some x:=by rfl) (hv:xA X.env.scope x:=by first | exact Or.inl rfl | exact Or.inr (Or.inl rfl) | exact Or.inr (Or.inr rfl)) (hd:(x == ("__debug__" : Str))=false:=by decide)
  (j8:(x == ("__classdict__" : Str))=false:=by decide) (he:starEach (e :: es) X.env=(false,eval e X.env) :: starEach es X.env:=by rfl) (jg:(backTo pos (starEach es X.env)).any (·.1)=false:=by rfl) :
  VP X Z (.Call (.Name x p) (e :: es) [] pos) (Fw i n g Fn):=.mk fun tm pins s σ H Q I ⟨ρ,O,q,E,hf,kk⟩=>by
 unfold Fw at hf
 split at hf
 · rename_i f e0
   obtain ⟨G,hFn,hf⟩:=hf
   obtain ⟨o,sv,h1,h2,rfl,v,rfl,h3⟩:=E.sl i _ e0
   simp only [At] at h3
   subst h3
   obtain ⟨hk,fd,ps,hb,F⟩:=C f G hFn
   refine wpAny_Call_Name_kw (cb (fm hN hv hd j8 pins s σ H (fun v H'=>v = .ref f∧H'=H) I ⟨_,h2,rfl,rfl⟩) fun u s1 ⟨v,H1,I1,r,ev,eH⟩=>?_)
   subst ev eH
   obtain rfl:u=Value.ref f:=r
   refine PySem.W.callWith_K (h₀:=X.base) I1.ok.mod.P4 hk (cb (ha tm pos pins s1 σ H1 (fun vs H2=>bQ X.K n G (vs ++ []) H2 Q E0) I1 ⟨ρ,O,_,E,hf,fun ts fj vs H2 s2 a2=>zL (E.same s2) a2 fj.1 fj.2 fun r hr v H' s z=>kk r hr v H' (s2.trans s) z⟩) fun us s2 ⟨vs,H2,I2,r2,q2⟩=>⟨I2.rj,?_⟩) he jg
   exact C4 F hr hb .nil rE I2 r2 q2
 · exact hf.elim
end
end VT
namespace cP
open PySem L2 VT Gen Dr
noncomputable abbrev cM:Stmt:=top 19
noncomputable abbrev cN:Stmt:=top 20
noncomputable abbrev cX:Stmt:=top 21
structure N2 (w:World) (K:PySem.W.Frag) (mg:Str→Option Value):Prop where
 m2:V0 mg
 yO:∃ t,mg "MOST_PARTS" = some (.int 4 t)
 yP:∃ a,mg "RECKONINGS" = some (.ref a)∧∀ H,dZ K H a [.str "plus",.str "minus",.str "times",.str "over",.str "rest",.str "less",.str "same"]
 isinstance:mg "isinstance" = none
 int:mg "int" = none
 bool:mg "bool" = none
 str:mg "str" = none
 len:mg "len" = none
 all:mg "all" = none
 tuple:mg "tuple" = none
 set:mg "set" = none
 zip:mg "zip" = none
noncomputable def JE:T→Bool
 | .str x=>sN x
 | _=>false
noncomputable def N3 (t:T):Bool:=JE t || iV t
noncomputable def Sn:List T:=[.str "plus",.str "minus",.str "times",.str "over",.str "rest",.str "less",.str "same"]
noncomputable def N4:T→Bool
 | .tup _=>false
 | t=>vB t Sn
noncomputable def N5:T→Bool
 | .tup l=>decide (l.length≤4) && l.all iV
 | _=>false
noncomputable def strsOf (l:List T):List Str:=l.filterMap fun t=>match t with
 | .str x=>some x
 | _=>none
noncomputable def N6:T→Bool
 | .tup l=>(decide (l.length≤4) && l.all iV) && (l.all e6 && decide ((once (strsOf l)).length=l.length))
 | _=>false
noncomputable def qN (t:T):Prop:=(∃ x,t = .str x∧x.length≤100)∨∃ i,t = .int i
noncomputable def Part (t:T):Prop:=qN t∨∃ l,t = .tup l∧l.length≤10∧∀ u∈l,qN u
theorem qN.flat {t:T} (h:qN t):lh t=true:=by rcases h with ⟨x,rfl,_⟩ | ⟨i,rfl⟩ <;> rfl
theorem qN.short {t:T} (h:qN t):∀ x,t = .str x→x.length≤1000:=by
 rintro x rfl
 rcases h with ⟨y,e,hy⟩ | ⟨i,e⟩
 · cases e; omega
 · cases e
theorem Part.flat {t:T} (h:Part t):lh t=true:=by rcases h with h | ⟨l,rfl,_⟩; exact h.flat; rfl
theorem Part.short {t:T} (h:Part t):∀ x,t = .str x→x.length≤1000:=by
 rcases h with h | ⟨l,rfl,_⟩
 · exact h.short
 · intro x e; cases e
noncomputable def wN (p:T→Bool) (ts:List T) (q:Rt→Prop):Prop:=∃ t,ts=[t]∧Part t∧q (.vw (.bl (p t)))
noncomputable abbrev EB:=wN JE
noncomputable abbrev Fy:=wN N3
noncomputable abbrev N7:=wN N4
noncomputable abbrev JF:=wN N5
noncomputable abbrev N8:=wN N6
theorem nt {b:Bool} (h:(!b)=true):b=false:=by cases b <;> simp_all
theorem nf {b:Bool} (h:¬ (!b)=true):b=true:=by cases b <;> simp_all
theorem pB (p:T→Bool):∀ l:List T,cf (l.map fun t=>T.bl (p t))=some (l.map p)
 | []=>rfl
 | t :: l=>by
   rw [g9,g9]
   show (cf _).map _=_
   rw [pB p l]
   rfl
theorem pC {l:List T} (h:l.all e6=true):l=(strsOf l).map .str:=by
 induction l with
 | nil=>rfl
 | cons t l ih =>
   rw [xI,kB] at h
   cases t with
   | str x =>
     show T.str x :: l=T.str x :: (strsOf l).map T.str
     rw [← ih h.2]
   | _=>cases h.1
section
variable {P:Program} {w:World} {K:PySem.W.Frag} {mg:Str→Option Value} {base:Heap}
noncomputable abbrev yQ:List Str:=["thing"]
theorem nD:aN yQ ["thing"] (ak iU):=⟨rfl,rfl,rfl,by decide +kernel,rfl,by decide +kernel,by decide +kernel⟩
theorem wO {f:Addr} {fd:FuncData} (D:Df K mg "is_field" iU ["thing"] f fd) (M:N2 w K mg) (iq:bY P w K mg base "is_name" ["thing"] 1 (bQ K 1 jf)):bY P w K mg base "is_field" ["thing"] 2 (bQ K 1 EB):=by
 obtain ⟨mJ,kr,eI,eJ,eK,eO⟩:=iq
 refine D.i5 (jJ D.F nD rfl fun bO A outer s H E Ox hr ts q hG=>?_)
 have nd:=nD.nd
 refine ⟨_,(ah (aD (VP.vx (oG (iJ oW (by rfl) M.isinstance (by rfl) M.str DP (aa 0)) (oG (Bw (aa 0) (VP.vr ay)) (kc (aK eO (hr.mono (by decide)) (by rfl) eI eJ eK (ae (VP.ve (fY (aa 0) (fH (VP.vr af)) kP)) ai)))))))),fun _=>?_⟩
 obtain ⟨t,rfl,ht,hq⟩:=hG
 rcases ht with (⟨x,rfl,hx⟩ | ⟨i,rfl⟩) | ⟨l,rfl,_⟩
 · refine ⟨rfl,?_⟩
   have d3:q (.vw (.bl (Txt.startswith x "." && dy (Txt.slice x (some 1) none)))):=hq
   refine z_ (c:=Txt.startswith x ".") (fun h=>?_) (fun h=>?_)
   · rw [h,uN] at d3
     refine ⟨cz (by omega),rfl,_,rfl,rfl,fun y e=>?_,d3⟩
     cases e
     exact nI (Txt.slice_le x _ _) (by omega)
   · rw [h,Cq] at d3
     exact d3
 · exact ⟨rfl,hq⟩
 · exact ⟨rfl,hq⟩
noncomputable abbrev Fz:List Str:=["thing"]
theorem sg:aN Fz ["thing"] (ak lg):=⟨rfl,rfl,rfl,by decide +kernel,rfl,by decide +kernel,by decide +kernel⟩
theorem BK {f:Addr} {fd:FuncData} (D:Df K mg "is_key" lg ["thing"] f fd) (M:N2 w K mg) (yR:bY P w K mg base "is_field" ["thing"] 2 (bQ K 1 EB)) (dO:bY P w K mg base "is_operand" ["thing"] 2 (bQ K 1 Fv)):bY P w K mg base "is_key" ["thing"] 3 (bQ K 1 Fy):=by
 obtain ⟨N9,K_,yS,yT,yU,yV⟩:=yR
 obtain ⟨ll,j3,dP,dQ,dR,dS⟩:=dO
 refine D.i5 (jJ D.F sg rfl fun bO A outer s H E Ox hr ts q hG=>?_)
 have nd:=sg.nd
 refine ⟨_,(ah (aD (VP.vx (zE (aK yV (hr.mono (by decide)) (by rfl) yS yT yU (ae (aj 0) ai)) (kc (aK dS (hr.mono (by decide)) (by rfl) dP dQ dR (ae (aj 0) ai))))))),fun _=>?_⟩
 obtain ⟨t,rfl,ht,hq⟩:=hG
 have d3:q (.vw (.bl (JE t || iV t))):=hq
 refine ⟨rfl,t,rfl,ht,z_ (c:=JE t) (fun h=>?_) (fun h=>⟨rfl,t,rfl,ht.flat,ht.short,?_⟩)⟩
 · rw [h,Ln] at d3; exact d3
 · rw [h,PY] at d3; exact d3
noncomputable abbrev jA:List Str:=["thing"]
theorem i7:aN jA ["thing"] (ak cM):=⟨rfl,rfl,rfl,by decide +kernel,rfl,by decide +kernel,by decide +kernel⟩
theorem nR {f:Addr} {fd:FuncData} (D:Df K mg "is_reckoning" cM ["thing"] f fd) (M:N2 w K mg):bY P w K mg base "is_reckoning" ["thing"] 1 (bQ K 1 N7):=by
 refine D.i5 (jJ D.F i7 rfl fun bO A outer s H E Ox hr ts q hG=>?_)
 have nd:=i7.nd
 have hu:=bA.fu hr
 obtain ⟨aR,mR,hR⟩:=M.yP
 have uf:∀ {pos},VP (iA jk P w K mg base jA "is_reckoning" (ak cM) f bO A outer s H E).uW ⟨H,[],Ox⟩ (.Name "RECKONINGS" pos) (fC (.tup Sn)):=eV (by rfl) mR (v:=.ref aR) rfl fun H A=>bu (hR H) (aA.cons bJ (aA.cons bJ (aA.cons bJ (aA.cons bJ (aA.cons bJ (aA.cons bJ (aA.cons bJ aA.nil)))))))
 refine ⟨_,(ah (aD (VP.vx (NA hu (aa 0) (VP.vr uf))))),fun _=>?_⟩
 obtain ⟨t,rfl,ht,hq⟩:=hG
 rcases ht with (⟨x,rfl,hx⟩ | ⟨i,rfl⟩) | ⟨l,rfl,_⟩
 · exact ⟨rfl,rfl,hq⟩
 · exact ⟨rfl,rfl,hq⟩
 · exact ⟨["plus","minus","times","over","rest","less","same"],rfl,hq⟩
noncomputable abbrev gn:List Str:=["thing"]
theorem i8:aN gn ["thing"] (ak cN):=⟨rfl,rfl,rfl,by decide +kernel,rfl,by decide +kernel,by decide +kernel⟩
theorem ku:(gn ++ (["part"]:List Str)).Nodup:=by decide +kernel
theorem nS {f:Addr} {fd:FuncData} (D:Df K mg "are_operands" cN ["thing"] f fd) (M:N2 w K mg) (dO:bY P w K mg base "is_operand" ["thing"] 2 (bQ K 1 Fv)):bY P w K mg base "are_operands" ["thing"] 3 (bQ K 1 JF):=by
 obtain ⟨ll,j3,dP,dQ,dR,dS⟩:=dO
 refine D.i5 (jJ D.F i8 rfl fun bO A outer s H E Ox hr ts q hG=>?_)
 have nd:=i8.nd
 have np:∀ {i:Nat},a9 ⟨H,[],Ox⟩ i:=n5
 obtain ⟨tP,mP⟩:=M.yO
 have ug:∀ {pos},VP (iA jk P w K mg base gn "are_operands" (ak cN) f bO A outer s H E).uW ⟨H,[],Ox⟩ (.Name "MOST_PARTS" pos) (fC (.int 4)):=eV (by rfl) mP (v:=.int 4) ⟨_,rfl⟩ fun _ _=>bG
 refine ⟨_,(ag (aY (VW.vc (jY (fq (dH (iJ oX (by rfl) M.isinstance (by rfl) M.tuple n6 (aa 0)))) (iF (vj (VP.vr (aG aI aJ (by rfl) M.len jd (ar (aa 0) az))) (VP.vr ug)))))
    (ah (aD (VP.vx hU)))
    aB)
   (ah (aD (VP.vx (aG (dG rfl) jI (by rfl) M.all zP (ar (VP.vr (dN (ts:=["part"]) rfl (by rfl) (jo (aj 0)) (fun _ _ _ _ _ _=>(aV (i:=1) ku rfl (Or.inl rfl) np)) (fun _ _ _ _ _ _=>di) (fun _ _ _ _ _ _=>(VP.ve (aK dS (hr.mono (by decide)) (by rfl) dP dQ dR (ae (aj 1) ai)))))) az)))))),fun _=>?_⟩
 obtain ⟨t,rfl,ht,hq⟩:=hG
 rcases ht with (⟨x,rfl,hx⟩ | ⟨i,rfl⟩) | ⟨l,rfl,hl,hL⟩
 · exact ⟨rfl,hq⟩
 · exact ⟨rfl,hq⟩
 · have d3:q (.vw (.bl (decide (l.length≤4) && l.all iV))):=hq
   refine ⟨rfl,?_⟩
   refine cJ (fun h=>?_) (fun h=>?_)
   · have h':(4:Int) < (l.length:Int):=h
     rw [decide_eq_false (by omega),Cq] at d3
     exact d3
   · have h':¬ (4:Int) < (l.length:Int):=h
     rw [decide_eq_true (by omega),uN] at d3
     refine ⟨rfl,cz (by omega),mh (fun _=>true) (fun t=>T.bl (iV t)) (fun t ht k r h=>⟨rfl,t,rfl,(hL t ht).flat,(hL t ht).short,h⟩) ?_⟩
     rw [List.filter_eq_self.mpr (fun _ _=>rfl)]
     refine ⟨l.map iV,pB iV l,?_⟩
     rw [List.all_map]
     exact d3
noncomputable abbrev ir:List Str:=["thing"]
theorem gQ:aN ir ["thing"] (ak cX):=⟨rfl,rfl,rfl,by decide +kernel,rfl,by decide +kernel,by decide +kernel⟩
theorem jB:(ir ++ (["part"]:List Str)).Nodup:=by decide +kernel
theorem lp {f:Addr} {fd:FuncData} (D:Df K mg "are_parameters" cX ["thing"] f fd) (M:N2 w K mg) (gp:bY P w K mg base "are_operands" ["thing"] 3 (bQ K 1 JF)) (iq:bY P w K mg base "is_name" ["thing"] 1 (bQ K 1 jf)):bY P w K mg base "are_parameters" ["thing"] 4 (bQ K 1 N8):=by
 obtain ⟨pD,nT,gq,gr,gu,gv⟩:=gp
 obtain ⟨mJ,kr,eI,eJ,eK,eO⟩:=iq
 refine D.i5 (jJ D.F gQ rfl fun bO A outer s H E Ox hr ts q hG=>?_)
 have nd:=gQ.nd
 have hu:=bA.fu hr
 have np:∀ {i:Nat},a9 ⟨H,[],Ox⟩ i:=n5
 refine ⟨_,(ag (aY (VW.vc (jY (fq (dH (aK gv (hr.mono (by decide)) (by rfl) gq gr gu (ae (aj 0) ai)))) (iF (fq (dH (aG (dG rfl) jI (by rfl) M.all zP (ar (VP.vr (dN (ts:=["part"]) rfl (by rfl) (jo (aj 0)) (fun _ _ _ _ _ _=>(aV (i:=1) jB rfl (Or.inl rfl) np)) (fun _ _ _ _ _ _=>di) (fun _ _ _ _ _ _=>(VP.ve (aK eO (hr.mono (by decide)) (by rfl) eI eJ eK (ae (aj 1) ai)))))) az)))))))
    (ah (aD (VP.vx hU)))
    aB)
   (ah (aD (VP.vx (kO hu (VP.vr (BJ rfl (by rfl) M.len (by rfl) M.set (aa 0))) (VP.vr (aG aI aJ (by rfl) M.len jd (ar (aa 0) az)))))))),fun _=>?_⟩
 obtain ⟨t,rfl,ht,hq⟩:=hG
 refine ⟨rfl,t,rfl,ht,?_⟩
 rcases ht with (⟨x,rfl,hx⟩ | ⟨i,rfl⟩) | ⟨l,rfl,hl,hL⟩
 · exact hq
 · exact hq
 · have d3:q (.vw (.bl ((decide (l.length≤4) && l.all iV) && (l.all e6 && decide ((once (strsOf l)).length=l.length))))):=hq
   refine nK (fun h=>?_) (fun h=>?_)
   · have h':(!(decide (l.length≤4) && l.all iV))=true:=h
     have h2:(decide (l.length≤4) && l.all iV)=false:=nt h'
     rw [h2,Cq] at d3
     exact d3
   · have h':¬ (!(decide (l.length≤4) && l.all iV))=true:=h
     have h2:(decide (l.length≤4) && l.all iV)=true:=nf h'
     rw [h2,uN] at d3
     refine ⟨rfl,cz (by omega),mh (fun _=>true) (fun t=>T.bl (e6 t)) (fun t ht k r h=>⟨rfl,t,rfl,(hL t ht).flat,(hL t ht).short,h⟩) ?_⟩
     rw [List.filter_eq_self.mpr (fun _ _=>rfl)]
     refine ⟨l.map e6,pB e6 l,?_⟩
     rw [List.all_map]
     refine nK (fun h3=>?_) (fun h3=>?_)
     · have YF:(!(l.all e6))=true:=h3
       have h4:l.all e6=false:=nt YF
       rw [h4,Cq] at d3
       exact d3
     · have YF:¬ (!(l.all e6))=true:=h3
       have h4:l.all e6=true:=nf YF
       rw [h4,uN] at d3
       refine ⟨strsOf l,.inr (by rw [← pC h4]),?_,?_⟩
       · have:=congrArg List.length (pC h4)
         rw [b_] at this
         omega
       · have e:decide (((once (strsOf l)).length:Int)=(l.length:Int))=decide ((once (strsOf l)).length=l.length):=decide_eq_decide.mpr (by omega)
         show q (.vw (.bl (decide (((once (strsOf l)).length:Int)=(l.length:Int)))))
         rw [e]
         exact d3
end
noncomputable abbrev lq:Stmt:=top 23
inductive So where
 | nm | op | key | rk | par | ops
noncomputable def fnName:So→Str
 | .nm=>"is_name"
 | .op=>"is_operand"
 | .key=>"is_key"
 | .rk=>"is_reckoning"
 | .par=>"are_parameters"
 | .ops=>"are_operands"
noncomputable def jV:So→T→Bool
 | .nm=>e6
 | .op=>iV
 | .key=>N3
 | .rk=>N4
 | .par=>N6
 | .ops=>N5
noncomputable def YG:So→List T→(Rt→Prop)→Prop
 | .nm=>jf
 | .op=>Fv
 | .key=>Fy
 | .rk=>N7
 | .par=>N8
 | .ops=>JF
theorem FC {s:So} {t:T} {q:Rt→Prop} (h:Part t) (hq:q (.vw (.bl (jV s t)))):YG s [t] q:=by
 cases s with
 | nm=>exact ⟨t,rfl,h.flat,h.short,hq⟩
 | op=>exact ⟨t,rfl,h.flat,h.short,hq⟩
 | _=>exact ⟨t,rfl,h,hq⟩
noncomputable def nE:List (Str×List So):=[("def",[.nm,.par]),("give",[.op]),("put",[.nm,.op]),("do",[.nm,.op,.rk,.op]),("new",[.nm]),("get",[.nm,.nm,.key]),("set",[.nm,.key,.op]),("call",[.nm,.nm,.ops]),("fail",[.nm]),("if",[.op]),("else",[]),("while",[.op]),("end",[]),("skip",[])]
noncomputable def lr:List (Str×List So)→Str→Option (List So)
 | [],_=>none
 | (k,ss) :: l,x=>if k=x then some ss else lr l x
noncomputable def pF (x:Str) (ps:List T):Bool:=match lr nE x with
 | none=>false
 | some ss=>decide (ps.length=ss.length) && (List.zipWith jV ss ps).all id
theorem si (fo:So→Addr) (x:Str):∀ l:List (Str×List So),IV (l.map fun p=>(p.1,T.tup (p.2.map fun s=>T.ob (fo s)))) x=(lr l x).map fun ss=>T.tup (ss.map fun s=>T.ob (fo s))
 | []=>rfl
 | (k,ss) :: l=>by
   have ih:=si fo x l
   unfold IV at ih ⊢
   simp only [g9,gg,lr]
   by_cases h:k=x
   · rw [if_pos h,if_pos (by rw [h])]; rfl
   · rw [if_neg h,if_neg (fun z=>h (Sum.inr.inj z))]; exact ih
theorem BL:∀ x ss,lr nE x=some ss→ss.length≤4:=by
 intro x ss
 have:∀ l:List (Str×List So),(∀ p∈l,p.2.length≤4)→lr l x=some ss→ss.length≤4:=by
  intro l
  induction l with
  | nil=>intro _ h; cases h
  | cons p l ih =>
    intro hl h
    obtain ⟨k,s0⟩:=p
    simp only [lr] at h
    split at h
    · cases h; exact hl _ iw
    · exact ih (fun p hp=>hl p (jc _ hp)) h
 exact this nE (by simp [nE])
theorem sj {α:Type} {h:FG} {fe:FE} {ρ:En} {fA:α→T} {b:α→T→Bool}:∀ {ss:List α} {ps:List T} {Q:List T→Prop},(∀ s∈ss,∀ p∈ps,∀ r:T→Prop,r (.bl (b s p))→h (.tup [fA s,p]) ρ fun ρ2=>fe ρ2 r)→Q ((List.zipWith b ss ps).map .bl)→cH h vn fe ρ (jU (ss.map fA) ps) Q
 | [],ps,Q,_,hq=>by simpa [jU,cH] using hq
 | s :: ss,[],Q,_,hq=>by simpa [jU,cH] using hq
 | s :: ss,p :: ps,Q,step,hq=>by
   show cH h vn fe ρ (T.tup [fA s,p] :: jU (ss.map fA) ps) Q
   simp only [cH]
   refine step s iw p iw _ ?_
   exact sj (fun s hs p hp=>step s (jc _ hs) p (jc _ hp)) hq
theorem wQ:∀ l:List Bool,cf (l.map T.bl)=some l
 | []=>rfl
 | b :: l=>by
   rw [g9]
   show (cf _).map _=_
   rw [wQ l]
   rfl
structure Mg4 (w:World) (K:PySem.W.Frag) (mg:Str→Option Value):Prop extends N2 w K mg where
 Sq:∃ (a:Addr) (fo:So→Addr),mg "FORMS" = some (.ref a)∧(∀ s,mg (fnName s)=some (.ref (fo s)))∧z6 w K a (nE.map fun p=>(p.1,T.tup (p.2.map fun s=>T.ob (fo s))))
noncomputable def Sr (ts:List T) (q:Rt→Prop):Prop:=∃ (x:Str) (ps:List T),ts=[.tup (.str x :: ps)]∧ps.length≤10∧(∀ p∈ps,Part p)∧q (.vw (.bl (pF x ps)))
theorem YH (t:T) (ps:List T):gA (t :: ps) (some 1) none=ps:=by
 unfold gA
 have e:HT.dA (t :: ps).length 0 (some 1)=1:=by
  have:=HT.gE (t :: ps).length 0 1
  rw [show ((1:Nat):Int)=1 from rfl] at this
  rw [this]
  simp
 rw [e,HT.u4]
 simp
section
variable {P:Program} {w:World} {K:PySem.W.Frag} {mg:Str→Option Value} {base:Heap}
noncomputable abbrev wR:List Str:=["row","form"]
theorem so:aN wR ["row"] (ak lq):=⟨rfl,rfl,rfl,by decide +kernel,rfl,by decide +kernel,by decide +kernel⟩
theorem lu:(wR ++ (["fits","part"]:List Str)).Nodup:=by decide +kernel
theorem BM {f:Addr} {fd:FuncData} (D:Df K mg "is_row" lq ["row"] f fd) (M:Mg4 w K mg) (iq:bY P w K mg base "is_name" ["thing"] 1 (bQ K 1 jf)) (dO:bY P w K mg base "is_operand" ["thing"] 2 (bQ K 1 Fv)) (FD:bY P w K mg base "is_key" ["thing"] 3 (bQ K 1 Fy)) (pG:bY P w K mg base "is_reckoning" ["thing"] 1 (bQ K 1 N7)) (mK:bY P w K mg base "are_parameters" ["thing"] 4 (bQ K 1 N8)) (gp:bY P w K mg base "are_operands" ["thing"] 3 (bQ K 1 JF)):bY P w K mg base "is_row" ["row"] 5 (bQ K 1 Sr):=by
 obtain ⟨mJ,kr,eI,eJ,eK,eO⟩:=iq
 obtain ⟨ll,j3,dP,dQ,dR,dS⟩:=dO
 obtain ⟨Ss,Px,FH,FJ,FK,FL⟩:=FD
 obtain ⟨FN,CF,pH,pI,pJ,pK⟩:=pG
 obtain ⟨BN,Aj,mQ,mS,mT,mU⟩:=mK
 obtain ⟨pD,nT,gq,gr,gu,gv⟩:=gp
 refine D.i5 (jJ D.F so rfl fun bO A outer s H E Ox hr ts q hG=>?_)
 have nd:=so.nd
 have hu:=bA.fu hr
 have np:∀ {i:Nat},a9 ⟨H,[],Ox⟩ i:=n5
 obtain ⟨aF,fo,JG,Mf,FQ⟩:=M.Sq
 have N_:∀ f' G,(∃ s:So,f'=fo s∧G=YG s)→PySem.W.keepIn K (.ref f')=true∧∃ fd ps,Binds K fd ps []∧d0 P w K mg base jk 4 f' fd ps (bQ K 1 G):=by
  rintro f' G ⟨s,rfl,rfl⟩
  have h:=Mf s
  cases s with
  | nm=>cases eI.symm.trans h; exact ⟨eJ,_,_,eK,eO.mono (by decide)⟩
  | op=>cases dP.symm.trans h; exact ⟨dQ,_,_,dR,dS.mono (by decide)⟩
  | key=>cases FH.symm.trans h; exact ⟨FJ,_,_,FK,FL.mono (by decide)⟩
  | rk=>cases pH.symm.trans h; exact ⟨pI,_,_,pJ,pK.mono (by decide)⟩
  | par=>cases mQ.symm.trans h; exact ⟨mS,_,_,mT,mU.mono (by decide)⟩
  | ops=>cases gq.symm.trans h; exact ⟨gr,_,_,gu,gv.mono (by decide)⟩
 refine ⟨_,(ag (aY (VW.vc (jY (fq (dH (iJ oX (by rfl) M.isinstance (by rfl) M.tuple n6 (aa 0)))) (jY (bB hu (VP.vr (aG aI aJ (by rfl) M.len jd (ar (aa 0) az))) (VP.vr af)) (iF (fq (dH (iJ oW (by rfl) M.isinstance (by rfl) M.str DP (VP.vr (aS (aa 0) (VP.vr af))))))))))
    (ah (aD (VP.vx hU)))
    aB)
   (ag (ba (i:=1) nd rfl (Or.inl rfl) (VP.vx (EA (by rfl) JG FQ (VP.vr (aS (aa 0) (VP.vr af))) ⟨rfl,rfl,rfl,rfl⟩)) np)
   (ag (aY (VW.vc (jY (DK (aa 1) (VP.vr jl)) (iF (i4 hu (VP.vr (aG aI aJ (by rfl) M.len jd (ar (aa 0) az))) (VP.vr (cj (VP.vr (aG aI aJ (by rfl) M.len jd (ar (aa 1) az))) (VP.vr af)))))))
     (ah (aD (VP.vx hU)))
     aB)
   (ah (aD (VP.vx (aG (dG rfl) jI (by rfl) M.all zP (ar (VP.vr (dN (ts:=["fits","part"]) rfl (by rfl) (DX (by rfl) M.zip (aj 1) (VP.ve (fY (aa 0) (fH (VP.vr af)) kP))) (fun _ _ _ _ _ _=>(f_ (n:=2) rfl (bc (aV (i:=2) lu rfl (Or.inl rfl) np) (bc (aV (i:=3) lu rfl (Or.inl rfl) np) dJ)))) (fun _ _ _ _ _ _=>di) (fun _ _ _ _ _ _=>(VP.ve (Fx 2 N_ (hr.mono (by decide)) (ae (aj 3) ai)))))) az)))))))),fun _=>?_⟩
 obtain ⟨x,ps,rfl,hl,hP,hq⟩:=hG
 have Su:=si fo x nE
 refine ⟨rfl,_,aq (j:=0) rfl,rfl,_,aq (j:=0) rfl,?_⟩
 show onStr (T.str x) _
 unfold onStr
 dsimp only
 rw [Su]
 cases hf:lr nE x with
 | none =>
   have hg:pF x ps=false:=by unfold pF; rw [hf]
   rw [hg] at hq
   exact hq
 | some ss =>
   have hg:pF x ps=(decide (ps.length=ss.length) && (List.zipWith jV ss ps).all id):=by unfold pF; rw [hf]
   rw [hg] at hq
   have hss:=BL x ss hf
   have el:(((T.str x :: ps).length:Nat):Int)=(ps.length:Int)+1:=by rw [Ax]; omega
   have GQ:(((ss.map fun s=>T.ob (fo s)).length:Nat):Int)=(ss.length:Int):=by rw [b_]
   refine nK (fun h=>?_) (fun h=>?_)
   · have h':(!decide (((T.str x :: ps).length:Int)=((ss.map fun s=>T.ob (fo s)).length:Int)+1))=true:=h
     have h2:=of_decide_eq_false (nt h')
     rw [el,GQ] at h2
     rw [decide_eq_false (by omega),Cq] at hq
     exact hq
   · have h':¬ (!decide (((T.str x :: ps).length:Int)=((ss.map fun s=>T.ob (fo s)).length:Int)+1))=true:=h
     have h2:=of_decide_eq_true (nf h')
     rw [el,GQ] at h2
     rw [decide_eq_true (by omega),uN] at hq
     have YI:¬ (HT.dA (T.str x :: ps).length 0 (some 1)=0∧HT.dA (T.str x :: ps).length (T.str x :: ps).length none=(T.str x :: ps).length):=by
      rintro ⟨z,_⟩
      have:=HT.gE (T.str x :: ps).length 0 1
      rw [show ((1:Nat):Int)=1 from rfl,z] at this
      simp at this
     refine ⟨rfl,YI,?_⟩
     rw [YH]
     refine ⟨?_,sj (b:=jV) (fun s _ p hp r hr=>?_) ⟨_,wQ _,hq⟩⟩
     · show (jU (ss.map fun s=>T.ob (fo s)) ps).length≤sizeLine
       unfold jU
       rw [List.length_zipWith]
       exact cz (by omega)
     · exact ⟨rfl,rfl,YG s,⟨s,rfl,rfl⟩,rfl,FC (q:=fun x=>r x.t) (hP p hp) hr⟩
end
end cP
deriving instance DecidableEq for cP.So
namespace cP
open PySem L2 VT Gen Dr
theorem wU {ys:List Str} (nd:ys.Nodup):∀ n,n≤ys.length→met (fun i=>ys.getD i Str.empty) n=ys.take n
 | 0,_=>rfl
 | n+1,h=>by
   have hl:n < ys.length:=by omega
   have ih:=wU nd n (by omega)
   have e:ys.getD n Str.empty=ys[n]:=by rw [List.getD,fD hl]; rfl
   have hn:ys[n]∉ys.take n:=by
    intro z
    obtain ⟨i,hi,he⟩:=List.mem_iff_getElem.mp z
    rw [List.getElem_take] at he
    rw [CM] at hi
    have:=Eb nd (by omega) hl he
    omega
   simp only [met,Pu,ih,e]
   rw [if_neg (by simpa using hn),List.take_succ_eq_append_getElem hl]
theorem yW {ys:List Str} (nd:ys.Nodup):once ys=ys:=by
 unfold once
 rw [wU nd _ (cA _),OW]
theorem jC {x:Str} (h:dy x=true):x.length≤8:=by
 unfold dy at h
 simp only [kB,decide_eq_true_eq] at h
 omega
section
variable {ys:List Str}
theorem dg (hn:∀ y∈ys,dy y=true) {o:j1} (h:c5 ys o):iV (m_ o)=true∧qN (m_ o):=by
 cases o with
 | nm x =>
   have:=hn x h
   exact ⟨by show (dy x || false)=true; rw [this]; rfl,.inl ⟨x,rfl,by have:=jC this; omega⟩⟩
 | nu i =>
   obtain ⟨h1,h2⟩:=h
   exact ⟨by show (false || (decide (-1000000000000000000000000000000≤i) && decide (i < 1000000000000000000000000000000)))=true; rw [decide_eq_true h1,decide_eq_true h2]; rfl,.inr ⟨i,rfl⟩⟩
theorem dj (hn:∀ y∈ys,dy y=true) {x:Str} (h:x∈ys):e6 (.str x)=true∧qN (.str x):=⟨hn x h,.inl ⟨x,rfl,by have:=jC (hn x h); omega⟩⟩
theorem wV (hn:∀ y∈ys,dy y=true) {k:Ky} (h:Bc ys k):N3 (DZ k)=true∧qN (DZ k):=by
 cases k with
 | fld x =>
   have hx:=hn x h
   exact ⟨by show (sN _ || _)=true; rw [AZ hx]; rfl,.inl ⟨_,rfl,by rw [HI]; have:=jC hx; omega⟩⟩
 | op o =>
   have:=dg hn (o:=o) h
   exact ⟨by show (_ || iV (m_ o))=true; rw [this.1,O6],this.2⟩
theorem FR {op:Str} (h:op∈reckon):N4 (.str op)=true∧qN (.str op):=by
 simp only [reckon,cZ,fG,or_false] at h
 rcases h with rfl | rfl | rfl | rfl | rfl | rfl | rfl <;> exact ⟨by decide +kernel,.inl ⟨_,rfl,by decide +kernel⟩⟩
theorem pL:∀ ps:List Str,strsOf (ps.map .str)=ps
 | []=>rfl
 | p :: ps=>by
   show p :: strsOf (ps.map .str)=_
   rw [pL ps]
theorem FT (hn:∀ y∈ys,dy y=true) {ps:List Str} (h2:ps.length≤2) (nd:ps.Nodup) (hp:∀ p∈ps,p∈ys):N6 (.tup (ps.map .str))=true∧Part (.tup (ps.map .str)):=by
 have e1:(ps.map T.str).all e6=true:=G0.mpr fun t ht=>by
  obtain ⟨x,hx,rfl⟩:=uO.mp ht
  exact (dj hn (hp x hx)).1
 have e2:(ps.map T.str).all iV=true:=G0.mpr fun t ht=>by
  have:=G0.mp e1 t ht
  show (e6 t || _)=true
  rw [this,Ln]
 refine ⟨?_,.inr ⟨_,rfl,by rw [b_]; omega,fun u hu=>?_⟩⟩
 · show ((decide _ && _) && (_ && decide _))=true
   rw [e1,e2,pL,yW nd,b_,decide_eq_true (by omega),decide_eq_true rfl]
   rfl
 · obtain ⟨x,hx,rfl⟩:=uO.mp hu
   exact (dj hn (hp x hx)).2
theorem FU (hn:∀ y∈ys,dy y=true) {as:List j1} (h2:as.length≤2) (ha:∀ a∈as,c5 ys a):N5 (.tup (as.map m_))=true∧Part (.tup (as.map m_)):=by
 refine ⟨?_,.inr ⟨_,rfl,by rw [b_]; omega,fun u hu=>?_⟩⟩
 · show (decide _ && _)=true
   rw [decide_eq_true (by rw [b_]; omega),uN]
   refine G0.mpr fun t ht=>?_
   obtain ⟨x,hx,rfl⟩:=uO.mp ht
   exact (dg hn (ha x hx)).1
 · obtain ⟨x,hx,rfl⟩:=uO.mp hu
   exact (dg hn (ha x hx)).2
noncomputable def pM (t:T):Prop:=∃ (x:Str) (ps:List T),t = .tup (.str x :: ps)∧ps.length≤4∧(∀ p∈ps,Part p)∧pF x ps=true
theorem dm {x:Str} {ss:List So} {ps:List T} (hf:lr nE x=some ss) (hl:ps.length=ss.length) (h4:ps.length≤4) (hp:∀ p∈ps,Part p) (hz:(List.zipWith jV ss ps).all id=true):pM (.tup (.str x :: ps)):=by
 refine ⟨x,ps,rfl,h4,hp,?_⟩
 unfold pF
 rw [hf]
 show (decide _ && _)=true
 rw [decide_eq_true hl,hz]
 rfl
theorem lx (hn:∀ y∈ys,dy y=true) {r:Rw} (h:Ea ys r):pM (ax r):=by
 cases r with
 | df f ps =>
   obtain ⟨h1,h2,h3,h4⟩:=h
   have a:=dj hn h1
   have b:=FT hn h2 h3 h4
   refine dm (ss:=[.nm,.par]) (by decide +kernel) rfl (by simp) ?_ ?_
   · simp only [CJ,fG,false_implies,implies_true,and_true]; exact ⟨.inl a.2,b.2⟩
   · simp only [Co,CI,xI,CN,jV,a.1,b.1]; rfl
 | give o =>
   have a:=dg hn h
   refine dm (ss:=[.op]) (by decide +kernel) rfl (by simp) ?_ ?_
   · simp only [CJ,fG,false_implies,implies_true,and_true]; exact .inl a.2
   · simp only [Co,CI,xI,CN,jV,a.1]; rfl
 | Bb o =>
   have a:=dg hn h
   refine dm (ss:=[.op]) (by decide +kernel) rfl (by simp) ?_ ?_
   · simp only [CJ,fG,false_implies,implies_true,and_true]; exact .inl a.2
   · simp only [Co,CI,xI,CN,jV,a.1]; rfl
 | tE o =>
   have a:=dg hn h
   refine dm (ss:=[.op]) (by decide +kernel) rfl (by simp) ?_ ?_
   · simp only [CJ,fG,false_implies,implies_true,and_true]; exact .inl a.2
   · simp only [Co,CI,xI,CN,jV,a.1]; rfl
 | put x o =>
   have a:=dj hn h.1
   have b:=dg hn h.2
   refine dm (ss:=[.nm,.op]) (by decide +kernel) rfl (by simp) ?_ ?_
   · simp only [CJ,fG,false_implies,implies_true,and_true]; exact ⟨.inl a.2,.inl b.2⟩
   · simp only [Co,CI,xI,CN,jV,a.1,b.1]; rfl
 | CC x o op o2 =>
   have a:=dj hn h.1
   have b:=dg hn h.2.1
   have c:=FR h.2.2.1
   have d:=dg hn h.2.2.2
   refine dm (ss:=[.nm,.op,.rk,.op]) (by decide +kernel) rfl (by simp) ?_ ?_
   · simp only [CJ,fG,false_implies,implies_true,and_true]; exact ⟨.inl a.2,.inl b.2,.inl c.2,.inl d.2⟩
   · simp only [Co,CI,xI,CN,jV,a.1,b.1,c.1,d.1]; rfl
 | new x =>
   have a:=dj hn h
   refine dm (ss:=[.nm]) (by decide +kernel) rfl (by simp) ?_ ?_
   · simp only [CJ,fG,false_implies,implies_true,and_true]; exact .inl a.2
   · simp only [Co,CI,xI,CN,jV,a.1]; rfl
 | fail x =>
   have a:=dj hn h
   refine dm (ss:=[.nm]) (by decide +kernel) rfl (by simp) ?_ ?_
   · simp only [CJ,fG,false_implies,implies_true,and_true]; exact .inl a.2
   · simp only [Co,CI,xI,CN,jV,a.1]; rfl
 | get x r k =>
   have a:=dj hn h.1
   have b:=dj hn h.2.1
   have c:=wV hn h.2.2
   refine dm (ss:=[.nm,.nm,.key]) (by decide +kernel) rfl (by simp) ?_ ?_
   · simp only [CJ,fG,false_implies,implies_true,and_true]; exact ⟨.inl a.2,.inl b.2,.inl c.2⟩
   · simp only [Co,CI,xI,CN,jV,a.1,b.1,c.1]; rfl
 | set r k o =>
   have a:=dj hn h.1
   have b:=wV hn h.2.1
   have c:=dg hn h.2.2
   refine dm (ss:=[.nm,.key,.op]) (by decide +kernel) rfl (by simp) ?_ ?_
   · simp only [CJ,fG,false_implies,implies_true,and_true]; exact ⟨.inl a.2,.inl b.2,.inl c.2⟩
   · simp only [Co,CI,xI,CN,jV,a.1,b.1,c.1]; rfl
 | call x f as =>
   have a:=dj hn h.1
   have b:=dj hn h.2.1
   have c:=FU hn h.2.2.1 h.2.2.2
   refine dm (ss:=[.nm,.nm,.ops]) (by decide +kernel) rfl (by simp) ?_ ?_
   · simp only [CJ,fG,false_implies,implies_true,and_true]; exact ⟨.inl a.2,.inl b.2,c.2⟩
   · simp only [Co,CI,xI,CN,jV,a.1,b.1,c.1]; rfl
 | _=>exact dm (ss:=[]) (by decide +kernel) rfl (by decide) (by simp) rfl
end
noncomputable abbrev dU:Stmt:=top 28
noncomputable abbrev fK:Stmt:=top 29
noncomputable abbrev dW:Stmt:=top 30
noncomputable abbrev gR:Stmt:=top 31
noncomputable abbrev fO:Stmt:=top 32
noncomputable abbrev eX:Stmt:=top 33
noncomputable abbrev ck:Stmt:=top 34
noncomputable abbrev iW:Stmt:=top 35
structure JH (w:World) (K:PySem.W.Frag) (mg:Str→Option Value):Prop where
 BO:∃ t,mg "MOST_ROWS" = some (.int 60 t)
 JI:∃ a,mg "OPENERS" = some (.ref a)∧∀ H,dZ K H a [.str "def",.str "if",.str "while"]
 JJ:∃ a,mg "CLOSERS" = some (.ref a)∧∀ H,dZ K H a [.str "give",.str "end"]
 list:mg "list" = none
 len:mg "len" = none
 enumerate:mg "enumerate" = none
structure Acc (rs:List Rw):Prop where
 n:rs.length≤60
 g:∀ r∈rs,pM (ax r)
 b:dB (some []) rs=some []
 d:dw rs
noncomputable def Sv (ts:List T) (q:Rt→Prop):Prop:=∃ (st:List Str) (x:Str),ts=[.lst (st.map .str),.str x]∧q (.vw (.bl (cc st x)))
noncomputable def gGo:GT:=fun ts q=>∃ (st:List Str) (x:Str),ts=[.lst (st.map .str),.str x]∧st.length≤1000∧cc st x=true∧q [.lst ((fE st x).map .str)] (.vw .bb)
noncomputable def FV (ts:List T) (q:Rt→Prop):Prop:=∃ rs:List Rw,ts=[.lst (rs.map ax)]∧(∀ r∈rs,pM (ax r))∧q (.vw .bb)
noncomputable def wW (ts:List T) (q:Rt→Prop):Prop:=∃ rs:List Rw,ts=[.lst (rs.map ax)]∧rs.length≤60∧dB (some []) rs=some []∧q (.vw .bb)
noncomputable def Aa (l:List (Str×Nat)):T:=.dk (l.map fun p=>(Sum.inr p.1:Key)) (l.map fun p=>T.int (p.2:Int))
noncomputable def pk (ts:List T) (q:Rt→Prop):Prop:=∃ rs:List Rw,ts=[.lst (rs.map ax)]∧rs.length≤60∧q (.fr (Aa (aH rs rs.length)))
noncomputable def K' (ts:List T) (q:Rt→Prop):Prop:=∃ (rs:List Rw) (l:List (Str×Nat)) (i:Nat) (x f:Str) (as:List j1) (j:Nat) (ps:List Str),ts=[.lst (rs.map ax),Aa l,.int (i:Int)]∧rs[i]?=some (Rw.call x f as)∧ng l f=some j∧i≤j∧rs[j]?=some (Rw.df f ps)∧ps.length=as.length∧q (.vw (.bl true))
noncomputable def Ak (ts:List T) (q:Rt→Prop):Prop:=∃ rs:List Rw,ts=[.lst (rs.map ax)]∧rs.length≤60∧dw rs∧q (.vw .bb)
noncomputable def Am (ts:List T) (q:Rt→Prop):Prop:=∃ rs:List Rw,ts=[.lst (rs.map ax)]∧Acc rs∧q (.fr (.lst (rs.map ax)))
theorem An {rs:List Rw} {i:Nat} {r:Rw} (h:rs[i]?=some r):jH (rs.map ax) (i:Int)=some (ax r):=aq (by rw [gw,h]; rfl)
theorem mz (l:List (Str×Nat)) (f:Str):gg (l.map fun p=>(Sum.inr p.1:Key)) (l.map fun p=>T.int (p.2:Int)) (Sum.inr f)=(ng l f).map fun i=>T.int (i:Int):=by
 induction l with
 | nil=>rfl
 | cons p l ih =>
   obtain ⟨k,i⟩:=p
   simp only [g9,gg,ng]
   by_cases h:k=f
   · rw [if_pos h,if_pos (by rw [h])]; rfl
   · rw [if_neg h,if_neg (fun z=>h (Sum.inr.inj z))]; exact ih
theorem gk (rs:List Rw):∀ n,(aH rs n).length≤n
 | 0=>cA _
 | n+1=>by
   have:=gk rs n
   simp only [aH]
   split
   · rename_i r _
     cases r <;> simp only [Bi] <;> first
      | omega
      | (split <;> simp <;> omega)
   · omega
section
variable {P:Program} {w:World} {K:PySem.W.Frag} {mg:Str→Option Value} {base:Heap}
noncomputable abbrev wX:List Str:=["opened","word"]
theorem ly:aN wX ["opened","word"] (ak gR):=⟨rfl,rfl,rfl,by decide +kernel,rfl,by decide +kernel,by decide +kernel⟩
theorem uh {f:Addr} {fd:FuncData} (D:Df K mg "may_stand" gR ["opened","word"] f fd) (M:JH w K mg):bY P w K mg base "may_stand" ["opened","word"] 1 (bQ K 2 Sv):=by
 refine D.i5 (jJ D.F ly rfl fun bO A outer s H E Ox hr ts q hG=>?_)
 have nd:=ly.nd
 have hu:=bA.fu hr
 refine ⟨_,(ag (aY (bB hu (VP.vr (aG aI aJ (by rfl) M.len jd (ar (aa 0) az))) (VP.vr af))
    (ah (aD (VP.vx (Kz (aa 1) (VP.vr (bw (ae (VP.ve ay) (ae (VP.ve ay) ai))))))))
    aB)
   (ag (aY (bB hu (aa 1) (VP.vr ay))
     (ah (aD (VP.vx (kO hu (VP.vr (aS (aa 0) (VP.vr (gW (VP.vr af))))) (VP.vr ay)))))
     aB)
   (ag (aY (bB hu (aa 1) (VP.vr ay))
     (ah (aD (VP.vx (kO hu (VP.vr (aS (aa 0) (VP.vr (gW (VP.vr af))))) (VP.vr ay)))))
     aB)
   (ag (aY (bB hu (aa 1) (VP.vr ay))
     (ah (aD (VP.vx (DA hu (VP.vr (aS (aa 0) (VP.vr (gW (VP.vr af))))) (VP.vr ay)))))
     aB)
   (ah (aD (VP.vx (DA hu (aa 1) (VP.vr ay))))))))),fun _=>?_⟩
 obtain ⟨st,x,rfl,hq⟩:=hG
 rcases Lj st with e | ⟨s0,l,e⟩
 · subst e
   exact ⟨small (by simp),rfl,rfl,hq⟩
 · rw [List.concat_eq_append] at e
   have hl:((st.map T.str).length:Int)≠0:=by rw [e]; simp; omega
   have ex:jH (st.map T.str) (-1)=some (T.str l):=by rw [e,xx]; exact kL _ _
   unfold cc at hq
   rw [e,Gx] at hq
   refine gB (c:=decide (((st.map T.str).length:Int)=0)) (decide_eq_false hl) ?_
   have d3:q (.vw (.bl (if x="give" then decide (l="def") else if x="else" then decide (l="if") else if x="end" then !decide (l="def") else !decide (x="def")))):=hq
   refine cJ (fun h=>?_) (fun h=>?_)
   · rw [if_pos h] at d3; exact ⟨_,ex,d3⟩
   · rw [if_neg h] at d3
     refine cJ (fun h=>?_) (fun h=>?_)
     · rw [if_pos h] at d3; exact ⟨_,ex,d3⟩
     · rw [if_neg h] at d3
       refine cJ (fun h=>?_) (fun h=>?_)
       · rw [if_pos h] at d3; exact ⟨_,ex,d3⟩
       · rw [if_neg h] at d3; exact d3
noncomputable abbrev ui:List Str:=["program","place","row"]
theorem j4:aN ui ["program"] (ak fK):=⟨rfl,rfl,rfl,by decide +kernel,rfl,by decide +kernel,by decide +kernel⟩
theorem qO {f:Addr} {fd:FuncData} (D:Df K mg "check_rows" fK ["program"] f fd) (M:JH w K mg) (FW:bY P w K mg base "is_row" ["row"] 5 (bQ K 1 Sr)):bY P w K mg base "check_rows" ["program"] 6 (bQ K 1 FV):=by
 obtain ⟨Sw,Py,FY,FZ,F0,F1⟩:=FW
 refine D.i5 (jJ D.F j4 rfl fun bO A outer s H E Ox hr ts q hG=>?_)
 have nd:=j4.nd
 have np:∀ {i:Nat},a9 ⟨H,[],Ox⟩ i:=n5
 refine ⟨_,(ah (dM zk rfl (gJ (by rfl) M.enumerate (aj 0)) (f_ (n:=2) rfl (bc (aV (i:=1) nd rfl (Or.inl rfl) np) (bc (aV (i:=2) nd rfl (Or.inl rfl) np) dJ)))
   (ah (aY (fq (dH (aK F1 (hr.mono (by decide)) (by rfl) FY FZ F0 (ae (aj 2) ai))))
     (ah mq)
     aB)))),fun _=>?_⟩
 obtain ⟨rs,rfl,hg,hq⟩:=hG
 refine eB (fun i ρ=>∃ b1 b2,ρ=[some (.lst (rs.map ax),false),b1,b2]) ⟨_,_,rfl⟩ ?_ ?_
 · rintro i r ρ hr ⟨b1,b2,rfl⟩
   obtain ⟨x,ps,ex,VN,hpP,hgd⟩:=hg r (j7 hr)
   refine ⟨rfl,rfl,rfl,x,ps,by rw [← ex],by omega,hpP,?_⟩
   rw [hgd]
   exact ⟨_,_,rfl⟩
 · rintro ρ ⟨b1,b2,rfl⟩
   exact hq
noncomputable abbrev mV:List Str:=["opened","word"]
theorem pN:aN mV ["opened","word"] (ak fO):=⟨rfl,rfl,rfl,by decide +kernel,rfl,by decide +kernel,by decide +kernel⟩
theorem yX {f:Addr} {fd:FuncData} (D:Df K mg "go_past" fO ["opened","word"] f fd) (M:JH w K mg):bY P w K mg base "go_past" ["opened","word"] 1 (sR K [true,false] gGo):=by
 refine D.i5 (Vu D.F pN rfl fun bO A outer s H E as Ox hr ts q hl hG=>?_)
 have nd:=pN.nd
 have hu:=bA.fu hr
 obtain ⟨aO,mO,hO⟩:=M.JI
 obtain ⟨aC,mC,hC⟩:=M.JJ
 have mF:∀ {pos},VP (iA jk P w K mg base mV "go_past" (ak fO) f bO A outer s H E).uW ⟨H,pz [true,false] as 0,Ox⟩ (.Name "OPENERS" pos) (fC (.tup [.str "def",.str "if",.str "while"])):=eV (by rfl) mO (v:=.ref aO) rfl fun H A=>bu (hO H) (aA.cons bJ (aA.cons bJ (aA.cons bJ aA.nil)))
 have mE:∀ {pos},VP (iA jk P w K mg base mV "go_past" (ak fO) f bO A outer s H E).uW ⟨H,pz [true,false] as 0,Ox⟩ (.Name "CLOSERS" pos) (fC (.tup [.str "give",.str "end"])):=eV (by rfl) mC (v:=.ref aC) rfl fun H A=>bu (hC H) (aA.cons bJ (aA.cons bJ aA.nil))
 refine ⟨_,(ah (aY (vC (aa 1) (VP.vr mF))
    (ah (bp (fZ 0 xF xG bx br (ae (aj 1) ai))))
    (ah (aY (vC (aa 1) (VP.vr mE))
      (ah (bp (yf 0 PySem.F.slot_list_pop PySem.F.type_list_pop x9 sQ)))
      (ah (aY (bB hu (aa 1) (VP.vr ay))
        (ah (gX 0 (VP.ve ay) (VP.vr (gW (VP.vr af)))))
        aB)))))),?_⟩
 obtain ⟨st,x,rfl,hl,hm,hq⟩:=hG
 have e1:vB (.str x) [.str "def",.str "if",.str "while"]=decide (x="def"∨x="if"∨x="while"):=by
  have:=oa x ["def","if","while"]
  rw [show ([.str "def",.str "if",.str "while"]:List T)=(["def","if","while"]:List Str).map .str from rfl,this]
  simp
 have e2:vB (.str x) [.str "give",.str "end"]=decide (x="give"∨x="end"):=by
  have:=oa x ["give","end"]
  rw [show ([.str "give",.str "end"]:List T)=(["give","end"]:List Str).map .str from rfl,this]
  simp
 unfold fE at hq
 refine ⟨rfl,rfl,?_⟩
 rw [e1]
 refine cJ (fun h=>?_) (fun h=>?_)
 · rw [if_pos h] at hq
   refine ⟨(by rw [sizeLine_eq,b_]; omega),?_⟩
   show q [.lst (st.map .str ++ [.str x])] _
   rw [xx] at hq
   exact hq
 · rw [if_neg h] at hq
   refine ⟨rfl,rfl,?_⟩
   rw [e2]
   have ne:(x="give"∨x="end")∨x="else"→∃ s0 l,st=s0 ++ [l]:=fun hx=>by
    rcases Lj st with e | ⟨s0,l,e⟩
    · subst e
      exfalso
      rcases hx with (rfl | rfl) | rfl <;> exact absurd hm (by decide +kernel)
    · exact ⟨s0,l,by rw [e,OQ]⟩
   refine cJ (fun h2=>?_) (fun h2=>?_)
   · rw [if_pos h2] at hq
     obtain ⟨s0,l,rfl⟩:=ne (.inl h2)
     refine ⟨rfl,.str l,by simp,?_⟩
     show q [.lst (((s0 ++ [l]).map T.str).dropLast)] _
     rw [uL] at hq
     rw [xx]
     show q [.lst ((s0.map T.str ++ [T.str l]).dropLast)] _
     rw [uL]
     exact hq
   · rw [if_neg h2] at hq
     refine cJ (fun h3=>?_) (fun h3=>?_)
     · rw [if_pos h3] at hq
       obtain ⟨s0,l,rfl⟩:=ne (.inr h3)
       have Jg:((s0 ++ [l]).map T.str).length=s0.length+1:=by simp
       refine ⟨s0.length,?_,?_⟩
       · unfold qk
         rw [Jg,if_neg (by decide),if_pos (by omega)]
         congr 1
         omega
       · show q [.lst (((s0 ++ [l]).map T.str).set s0.length (T.str "else"))] _
         rw [uL] at hq
         have e3:((s0 ++ [l]).map T.str).set s0.length (T.str "else")=(s0 ++ [("else" : Str)]).map T.str:=by simp
         rw [e3]
         exact hq
     · rw [if_neg h3] at hq
       exact hq
noncomputable abbrev pO:List Str:=["program","opened","place","row"]
theorem i9:aN pO ["program"] (ak dW):=⟨rfl,rfl,rfl,by decide +kernel,rfl,by decide +kernel,by decide +kernel⟩
theorem nU {f:Addr} {fd:FuncData} (D:Df K mg "check_blocks" dW ["program"] f fd) (M:JH w K mg) (wY:bY P w K mg base "may_stand" ["opened","word"] 1 (bQ K 2 Sv)) (BP:bY P w K mg base "go_past" ["opened","word"] 1 (sR K [true,false] gGo)):bY P w K mg base "check_blocks" ["program"] 3 (bQ K 1 wW):=by
 obtain ⟨La,JK,wZ,w6,w9,w_⟩:=wY
 obtain ⟨Pz,N',BQ,BR,BU,BV⟩:=BP
 refine D.i5 (jJ D.F i9 rfl fun bO A outer s H E Ox hr ts q hG=>?_)
 have nd:=i9.nd
 have np:∀ {i:Nat},a9 ⟨H,[],Ox⟩ i:=n5
 refine ⟨_,(ag (c6 (i:=1) nd rfl (Or.inl rfl) (VP.vx (cg ai)) np)
   (ag (dM zk rfl (gJ (by rfl) M.enumerate (aj 0)) (f_ (n:=2) rfl (bc (aV (i:=2) nd rfl (Or.inl rfl) np) (bc (aV (i:=3) nd rfl (Or.inl rfl) np) dJ)))
     (ag (aY (fq (dH (hX w_ (hr.mono (by decide)) (by rfl) wZ w6 w9 (ar (aa 1) (ar (VP.vr (aS (aa 3) (VP.vr af))) az)))))
       (ah mq)
       aB)
     (ah (bp (vt BV (hr.mono (by decide)) (by rfl) BQ BR BU (sT 1 (kR (VP.ve (aS (aa 3) (VP.vr af))) zM)))))))
   (ah (aY (vj (VP.vr (aG aI aJ (by rfl) M.len jd (ar (aa 1) az))) (VP.vr af))
     (ah mq)
     aB)))),fun _=>?_⟩
 obtain ⟨rs,rfl,hn,hb,hq⟩:=hG
 refine ⟨qe _,?_⟩
 refine eB (fun i ρ=>∃ b2 b3 st,ρ=[some (.lst (rs.map ax),false),some (.lst (st.map .str),true),b2,b3]∧dB (some []) (rs.take i)=some st∧st.length≤i) ⟨_,_,[],rfl,rfl,qe _⟩ ?_ ?_
 · rintro i r ρ hr ⟨b2,b3,st,rfl,hs,hl⟩
   have hi:=(cn.mp hr).1
   obtain ⟨s',e1,hm,e2⟩:=gf hb i hr
   rw [hs] at e1
   cases e1
   obtain ⟨l,el⟩:=jK r
   rw [el]
   refine ⟨rfl,rfl,_,aq (j:=0) rfl,rfl,st,wd r,rfl,?_⟩
   rw [hm]
   refine ⟨rfl,_,aq (j:=0) rfl,st,wd r,rfl,by omega,hm,?_⟩
   refine ⟨_,_,fE st (wd r),rfl,e2,?_⟩
   unfold fE
   split
   · rw [qd]; simp; omega
   · split
     · rw [Gw]; omega
     · split
       · rw [qd,Gw]; simp
         cases st with
         | nil=>rename_i z; rw [z] at hm; exact absurd hm (by decide +kernel)
         | cons a t=>simp at hl ⊢; omega
       · omega
 · rintro ρ ⟨b2,b3,st,rfl,hs,_⟩
   rw [OW,hb] at hs
   cases hs
   exact hq
noncomputable abbrev iN:List Str:=["program","firsts","place","row"]
theorem dc:aN iN ["program"] (ak ck):=⟨rfl,rfl,rfl,by decide +kernel,rfl,by decide +kernel,by decide +kernel⟩
theorem g6 {f:Addr} {fd:FuncData} (D:Df K mg "first_defs" ck ["program"] f fd) (M:JH w K mg):bY P w K mg base "first_defs" ["program"] 1 (bQ K 1 pk):=by
 refine D.i5 (jJ D.F dc rfl fun bO A outer s H E Ox hr ts q hG=>?_)
 have nd:=dc.nd
 have hu:=bA.fu hr
 have np:∀ {i:Nat},a9 ⟨H,[],Ox⟩ i:=n5
 refine ⟨_,(ag (c6 (i:=1) nd rfl (Or.inl rfl) (VP.vx zZ) np)
   (ag (dM zk rfl (gJ (by rfl) M.enumerate (aj 0)) (f_ (n:=2) rfl (bc (aV (i:=2) nd rfl (Or.inl rfl) np) (bc (aV (i:=3) nd rfl (Or.inl rfl) np) dJ)))
     (ah (aY (bB hu (VP.vr (aS (aa 3) (VP.vr af))) (VP.vr ay))
       (ah (bp (z7 1 (VP.ve (aS (aa 3) (VP.vr af))) (aj 2))))
       aB)))
   (ah (aD (iI 1 np))))),fun _=>?_⟩
 obtain ⟨rs,rfl,hn,hq⟩:=hG
 refine eB (fun i ρ=>∃ b2 b3,ρ=[some (.lst (rs.map ax),false),some (Aa (aH rs i),true),b2,b3]) ⟨_,_,rfl⟩ ?_ ?_
 · rintro i r ρ hr ⟨b2,b3,rfl⟩
   have hi:=(cn.mp hr).1
   have hlen:((aH rs i).map fun p=>T.int (p.2:Int)).length < 16777216:=by
    rw [b_]; have:=gk rs i; omega
   have es:aH rs (i+1)=Bi (aH rs i) i r:=by simp only [aH,hr]
   cases r with
   | df g ps =>
     refine ⟨rfl,rfl,_,aq (j:=0) rfl,?_⟩
     refine ⟨_,aq (j:=1) rfl,hlen,?_⟩
     rw [es]
     simp only [Bi]
     rw [mz]
     cases ha:ng (aH rs i) g with
     | some j=>exact ⟨_,_,rfl⟩
     | none =>
       show ∃ b2 b3,_=[_,some (Aa (aH rs i ++ [(g,i)]),true),b2,b3]
       have ef:Aa (aH rs i ++ [(g,i)]) = .dk (((aH rs i).map fun p=>(Sum.inr p.1:Key)) ++ [Sum.inr g]) (((aH rs i).map fun p=>T.int (p.2:Int)) ++ [T.int (i:Int)]):=by
        simp only [Aa,xx,g9,Cs]
       rw [ef]
       exact ⟨_,_,rfl⟩
   | _ =>
     refine ⟨rfl,rfl,_,aq (j:=0) rfl,?_⟩
     rw [es]
     exact ⟨_,_,rfl⟩
 · rintro ρ ⟨b2,b3,rfl⟩
   exact hq
noncomputable abbrev yY:List Str:=["program","firsts","place","row","first"]
theorem nF:aN yY ["program","firsts","place"] (ak iW):=⟨rfl,rfl,rfl,by decide +kernel,rfl,by decide +kernel,by decide +kernel⟩
theorem xa {f:Addr} {fd:FuncData} (D:Df K mg "may_call" iW ["program","firsts","place"] f fd) (M:JH w K mg):bY P w K mg base "may_call" ["program","firsts","place"] 1 (bQ K 3 K'):=by
 refine D.i5 (jJ D.F nF rfl fun bO A outer s H E Ox hr ts q hG=>?_)
 have nd:=nF.nd
 have hu:=bA.fu hr
 have np:∀ {i:Nat},a9 ⟨H,[],Ox⟩ i:=n5
 have zF:=Ey hu
 refine ⟨_,(ag (ba (i:=3) nd rfl (Or.inl rfl) (VP.vx (aS (aa 0) (aa 2))) np)
  (ag (ba (i:=4) nd rfl (Or.inl rfl) (VP.vx (Nw zF (aa 1) (VP.vr (aS (aa 3) (VP.vr af))) ⟨rfl,rfl,rfl,rfl⟩)) np)
  (ag (aY (VW.vc (jY (DK (aa 4) (VP.vr jl)) (iF (rH (aa 4) (aa 2)))))
    (ah (aD (VP.vx hU)))
    aB)
  (ah (aD (VP.vx (kO hu (VP.vr (aG aI aJ (by rfl) M.len jd (ar (VP.vr (aS (VP.vr (aS (aa 0) (aa 4))) (VP.vr af))) az))) (VP.vr (aG aI aJ (by rfl) M.len jd (ar (VP.vr (aS (aa 3) (VP.vr af))) az)))))))))),fun _=>?_⟩
 obtain ⟨rs,l,i,x,g,as,j,ps,rfl,hi,ha,Vp,hj,hl,hq⟩:=hG
 refine ⟨_,An hi,_,aq (j:=2) rfl,?_⟩
 have ex:=mz l g
 rw [ha] at ex
 dsimp only [Rt.t,Ew]
 rw [ex]
 refine gB (c:=decide ((j:Int) < (i:Int))) (decide_eq_false (by omega)) ?_
 refine ⟨_,An hj,_,aq (j:=2) rfl,_,aq (j:=3) rfl,?_⟩
 show q (.vw (.bl (decide (((ps.map T.str).length:Int)=((as.map m_).length:Int)))))
 rw [b_,b_,decide_eq_true (by omega)]
 exact hq
noncomputable abbrev qP:List Str:=["program","firsts","place","row"]
theorem jD:aN qP ["program"] (ak eX):=⟨rfl,rfl,rfl,by decide +kernel,rfl,by decide +kernel,by decide +kernel⟩
theorem pP {f:Addr} {fd:FuncData} (D:Df K mg "check_calls" eX ["program"] f fd) (M:JH w K mg) (iO:bY P w K mg base "first_defs" ["program"] 1 (bQ K 1 pk)) (yZ:bY P w K mg base "may_call" ["program","firsts","place"] 1 (bQ K 3 K')):bY P w K mg base "check_calls" ["program"] 3 (bQ K 1 Ak):=by
 obtain ⟨t7,qJ,iP,iQ,iR,iS⟩:=iO
 obtain ⟨Oa,Lb,y0,y1,y2,y3⟩:=yZ
 refine D.i5 (jJ D.F jD rfl fun bO A outer s H E Ox hr ts q hG=>?_)
 have nd:=jD.nd
 have hu:=bA.fu hr
 have np:∀ {i:Nat},a9 ⟨H,[],Ox⟩ i:=n5
 have zF:=Ey hu
 refine ⟨_,(ag (ba (i:=1) nd rfl (Or.inl rfl) (VP.vx (aK iS (hr.mono (by decide)) (by rfl) iP iQ iR (ae (aj 0) ai))) np)
   (ah (dM zk rfl (gJ (by rfl) M.enumerate (aj 0)) (f_ (n:=2) rfl (bc (aV (i:=2) nd rfl (Or.inl rfl) np) (bc (aV (i:=3) nd rfl (Or.inl rfl) np) dJ)))
     (ag (aY (VW.vc (du (bB hu (VP.vr (aS (aa 3) (VP.vr af))) (VP.vr ay)) (cS (i4 hu (VP.vr (Ex zF (aa 1) (VP.vr (aS (aa 3) (VP.vr af))))) (aa 2)))))
       (ah mq)
       aB)
     (ah (aY (VW.vc (du (bB hu (VP.vr (aS (aa 3) (VP.vr af))) (VP.vr ay)) (cS (fq (dH (aK y3 (hr.mono (by decide)) (by rfl) y0 y1 y2 (ae (aj 0) (ae (aj 1) (ae (aj 2) ai)))))))))
       (ah mq)
       aB)))))),fun _=>?_⟩
 obtain ⟨rs,rfl,hn,hd,hq⟩:=hG
 refine ⟨rfl,rs,rfl,hn,?_⟩
 refine eB (fun i ρ=>∃ b2 b3,ρ=[some (.lst (rs.map ax),false),some (Aa (aH rs rs.length),false),b2,b3]) ⟨_,_,rfl⟩ ?_ ?_
 · rintro i r ρ hr ⟨b2,b3,rfl⟩
   cases r with
   | df g ps =>
     refine ⟨rfl,rfl,_,aq (j:=0) rfl,_,aq (j:=1) rfl,?_⟩
     have ex:=mz (aH rs rs.length) g
     rw [hd.first hr] at ex
     exact ⟨_,ex,gB (c:=!decide ((i:Int)=(i:Int))) (by simp) ⟨_,aq (j:=0) rfl,_,_,rfl⟩⟩
   | call x g as =>
     obtain ⟨j,ps,Vp,hj,hl⟩:=hd.ca i x g as hr
     refine ⟨rfl,rfl,_,aq (j:=0) rfl,_,aq (j:=0) rfl,rfl,rs,_,i,x,g,as,j,ps,rfl,hr,hd.first hj,by omega,hj,hl,?_⟩
     exact ⟨_,_,rfl⟩
   | _=>exact ⟨rfl,rfl,_,aq (j:=0) rfl,_,aq (j:=0) rfl,_,_,rfl⟩
 · rintro ρ ⟨b2,b3,rfl⟩
   exact hq
noncomputable abbrev lz:List Str:=["rows","program"]
theorem j5:aN lz ["rows"] (ak dU):=⟨rfl,rfl,rfl,by decide +kernel,rfl,by decide +kernel,by decide +kernel⟩
theorem qQ {f:Addr} {fd:FuncData} (D:Df K mg "program_of" dU ["rows"] f fd) (M:JH w K mg) (uj:bY P w K mg base "check_rows" ["program"] 6 (bQ K 1 FV)) (pQ:bY P w K mg base "check_blocks" ["program"] 3 (bQ K 1 wW)) (qR:bY P w K mg base "check_calls" ["program"] 3 (bQ K 1 Ak)):bY P w K mg base "program_of" ["rows"] 7 (bQ K 1 Am):=by
 obtain ⟨JL,GR,uk,um,uo,uq⟩:=uj
 obtain ⟨F2,CG,pR,pS,pT,pU⟩:=pQ
 obtain ⟨GS,F3,qS,qT,qU,qV⟩:=qR
 refine D.i5 (jJ D.F j5 rfl fun bO A outer s H E Ox hr ts q hG=>?_)
 have nd:=j5.nd
 have np:∀ {i:Nat},a9 ⟨H,[],Ox⟩ i:=n5
 obtain ⟨tM,mM⟩:=M.BO
 have xb:∀ {pos},VP (iA jk P w K mg base lz "program_of" (ak dU) f bO A outer s H E).uW ⟨H,[],Ox⟩ (.Name "MOST_ROWS" pos) (fC (.int 60)):=eV (by rfl) mM (v:=.int 60) ⟨_,rfl⟩ fun _ _=>bG
 refine ⟨_,(ag (c6 (i:=1) nd rfl (Or.inl rfl) (VP.vx (hW iB kf (by rfl) M.list yj (ar (aa 0) az))) np)
  (ag (aY (vj (VP.vr (aG aI aJ (by rfl) M.len jd (ar (aa 1) az))) (VP.vr xb))
    (ah mq)
    aB)
  (ag (bp (VP.vx (hX uq (hr.mono (by decide)) (by rfl) uk um uo (ar (aa 1) az))))
  (ag (bp (VP.vx (hX pU (hr.mono (by decide)) (by rfl) pR pS pT (ar (aa 1) az))))
  (ag (bp (VP.vx (hX qV (hr.mono (by decide)) (by rfl) qS qT qU (ar (aa 1) az))))
  (ah (aD (iI 1 np)))))))),fun _=>?_⟩
 obtain ⟨rs,rfl,hA,hq⟩:=hG
 have hn:=hA.n
 have hl:((rs.map ax).length:Int)=(rs.length:Int):=by rw [b_]
 refine gB (c:=decide ((60:Int) < ((rs.map ax).length:Int))) (decide_eq_false (by omega)) ?_
 exact ⟨rfl,rs,rfl,hA.g,rfl,rfl,rs,rfl,hA.n,hA.b,rfl,rfl,rs,rfl,hA.n,hA.d,rfl,hq⟩
end
end cP
namespace On
open PySem L2 VT Gen K5 Lay BS
noncomputable def Bk (s:List Str):Prop:=s=[]∨∃ t,s=kX :: t∧kX∉t
theorem iX {s:List Str} {x:Str} (h:cc s x=true) (hx:x≠"def") (hs:x≠"skip"):s≠[]:=by
 intro e
 subst e
 have:vB (.str x) ((["def","skip"]:List Str).map .str)=true:=h
 rw [oa] at this
 have:=of_decide_eq_true this
 simp only [cZ,fG,or_false] at this
 rcases this with z | z
 · exact hx z
 · exact hs z
theorem Bk.drop {s:List Str} (h:Bk s):Bk s.dropLast:=by
 rcases h with rfl | ⟨t,rfl,ht⟩
 · exact .inl rfl
 · cases t with
   | nil=>exact .inl rfl
   | cons a t=>exact .inr ⟨(a :: t).dropLast,rfl,fun z=>ht (List.dropLast_subset _ z)⟩
theorem Bk.push {s:List Str} {x:Str} (h:Bk s) (hs:s≠[]) (hx:x≠kX):Bk (s ++ [x]):=by
 rcases h with rfl | ⟨t,rfl,ht⟩
 · exact absurd rfl hs
 · refine .inr ⟨t ++ [x],rfl,fun z=>?_⟩
   rcases g_.mp z with z | z
   · exact ht z
   · exact hx (ou.mp z).symm
theorem Bk.qF {s:List Str} (h:Bk s) (hi:s.getLast?=some ("if" : Str)):Bk (s.dropLast ++ [("else" : Str)]):=by
 rcases h with rfl | ⟨t,rfl,ht⟩
 · cases hi
 · cases t with
   | nil=>exact absurd (Option.some.inj hi) (by decide +kernel)
   | cons a t =>
     refine .inr ⟨(a :: t).dropLast ++ [("else" : Str)],rfl,fun z=>?_⟩
     rcases g_.mp z with z | z
     · exact ht (List.dropLast_subset _ z)
     · exact absurd (ou.mp z) (by decide +kernel)
theorem Sx {s:List Str} {r:Rw} (h:Bk s) (hm:cc s (wd r)=true):Bk (fE s (wd r))∧(fE s (wd r)).length=(if (au r).cl=true then s.length - 1 else if (au r).op=true then s.length+1 else s.length):=by
 have Sy:∀ x:Str,x=wd r→x≠"def"→x≠"if"→x≠"while"→x≠"give"→x≠"end"→x≠"else"→fE s (wd r)=s:=fun x e h1 h2 h3 h4 h5 h6=>by
  rw [← e]; unfold fE
  rw [if_neg (by rintro (z | z | z) <;> contradiction),if_neg (by rintro (z | z) <;> contradiction),if_neg h6]
 cases r with
 | df f ps =>
   have e:s=[]:=by
    cases hl:s.getLast? with
    | none=>exact PM.mp hl
    | some l =>
      unfold cc at hm
      rw [hl] at hm
      have:(if (("def" : Str)="give") then decide (l="def") else if (("def" : Str)="else") then decide (l="if") else if (("def" : Str)="end") then !decide (l="def") else !decide (("def" : Str)="def"))=true:=hm
      rw [if_neg (by decide +kernel),if_neg (by decide +kernel),if_neg (by decide +kernel)] at this
      simp at this
   subst e
   exact ⟨by rw [show wd (.df f ps)="def" from rfl,og]; exact .inr ⟨[],rfl,by simp⟩,by rw [show wd (.df f ps)="def" from rfl,og]; rfl⟩
 | give a=>exact ⟨by rw [show wd (.give a)="give" from rfl,kZ]; exact h.drop,by rw [show wd (.give a)="give" from rfl,kZ,Gw]; rfl⟩
 | fin=>exact ⟨by rw [show wd .fin="end" from rfl,kY]; exact h.drop,by rw [show wd .fin="end" from rfl,kY,Gw]; rfl⟩
 | Bb a =>
   have hn:=iX hm (by simp only [wd]; decide +kernel) (by simp only [wd]; decide +kernel)
   exact ⟨by rw [show wd (.Bb a)="if" from rfl,tJ]; exact h.push hn (by decide +kernel),by rw [show wd (.Bb a)="if" from rfl,tJ]; simp [au]⟩
 | tE a =>
   have hn:=iX hm (by simp only [wd]; decide +kernel) (by simp only [wd]; decide +kernel)
   exact ⟨by rw [show wd (.tE a)="while" from rfl,ia]; exact h.push hn (by decide +kernel),by rw [show wd (.tE a)="while" from rfl,ia]; simp [au]⟩
 | qF =>
   have hn:=iX hm (by simp only [wd]; decide +kernel) (by simp only [wd]; decide +kernel)
   have hl:s.getLast?=some ("if" : Str):=by
    cases hl:s.getLast? with
    | none=>exact absurd (PM.mp hl) hn
    | some l =>
      unfold cc at hm
      rw [hl] at hm
      have:(if (("else" : Str)="give") then decide (l="def") else if (("else" : Str)="else") then decide (l="if") else if (("else" : Str)="end") then !decide (l="def") else !decide (("else" : Str)="def"))=true:=hm
      rw [if_neg (by decide +kernel),if_pos rfl] at this
      rw [of_decide_eq_true this]
   refine ⟨by rw [show wd .qF="else" from rfl,ic]; exact h.qF hl,?_⟩
   rw [show wd .qF="else" from rfl,ic,qd,Gw]
   have:0 < s.length:=List.length_pos_iff.mpr hn
   show s.length - 1+1=s.length
   omega
 | _=>rw [Sy _ rfl (by simp only [wd]; decide +kernel) (by simp only [wd]; decide +kernel) (by simp only [wd]; decide +kernel) (by simp only [wd]; decide +kernel) (by simp only [wd]; decide +kernel) (by simp only [wd]; decide +kernel)]; exact ⟨h,rfl⟩
theorem kx {rs:List Rw} (h:dB (some []) rs=some []):∀ k≤rs.length,∃ s,dB (some []) (rs.take k)=some s∧Bk s∧s.length=(st (bq rs) k).length
 | 0,_=>⟨[],by simp [dB],.inl rfl,rfl⟩
 | k+1,hk=>by
   obtain ⟨s,h1,h2,h3⟩:=kx h k (by omega)
   have hr:rs[k]?=some rs[k]:=fD hk
   obtain ⟨s',g1,g2,g3⟩:=gf h k hr
   rw [h1] at g1
   cases g1
   obtain ⟨b1,b2⟩:=Sx h2 g2
   refine ⟨_,g3,b1,?_⟩
   rw [b2,El rs hr,h3]
theorem F4 {rs:List Rw} (h:dB (some []) rs=some []) {k:Nat} {a:j1} (hr:rs[k]?=some (.give a)):(st (bq rs) k).length=1:=by
 have hk:=(cn.mp hr).1
 obtain ⟨s,h1,h2,h3⟩:=kx h k (by omega)
 obtain ⟨s',g1,g2,_⟩:=gf h k hr
 rw [h1] at g1
 cases g1
 have hn:=iX g2 (by simp only [wd]; decide +kernel) (by simp only [wd]; decide +kernel)
 have hl:s.getLast?=some ("def" : Str):=by
  cases hl:s.getLast? with
  | none=>exact absurd (PM.mp hl) hn
  | some l =>
    unfold cc at g2
    rw [hl] at g2
    have:(if (("give" : Str)="give") then decide (l="def") else if (("give" : Str)="else") then decide (l="if") else if (("give" : Str)="end") then !decide (l="def") else !decide (("give" : Str)="def"))=true:=g2
    rw [if_pos rfl] at this
    rw [of_decide_eq_true this]
 rw [← h3]
 rcases h2 with rfl | ⟨t,rfl,ht⟩
 · exact absurd rfl hn
 · cases t with
   | nil=>rfl
   | cons b t=>exact absurd (U5 (by rw [List.getLast?_cons_cons] at hl; exact hl)) ht
theorem fP {rs:List Rw} (h:dB (some []) rs=some []) {k:Nat} {a:j1} (hr:rs[k]?=some (.give a)):∃ d,st (bq rs) k=[d]∧ni (bq rs) k=some d∧kA (bq rs) k=some d:=by
 have h1:=F4 h hr
 obtain ⟨d,hd⟩:=List.length_eq_one_iff.mp h1
 have hk:bq rs k=au (.give a):=bP hr
 refine ⟨d,hd,by unfold ni; rw [hd]; rfl,by unfold kA; rw [hk,hd]; rfl⟩
noncomputable def GI (rs:List Rw) (S:Int) (n:Nat):Rw→Bool
 | .give _=>true
 | r=>Pq rs S n r
noncomputable def eQ:Rw→Bool
 | .give _=>true
 | _=>false
theorem Ao {rs:List Rw} (W:rQ rs) {n h:Nat} (hn:n≤rs.length) (e:ni (bq rs) n=some h):(bq rs h).op=true:=by
 have hm:h∈st (bq rs) n:=U5 e
 obtain ⟨i,hi⟩:=CH.mp hm
 exact (rP W n hn i h hi).2.1
theorem F5 {l:List Bool} {b:Bool} {i:Nat} (h:i < l.length):(l ++ [b]).getD i false=l.getD i false:=by
 rw [List.getD,List.getD,oq h]
theorem xc (rs:List Rw) (S:Int) {i:Nat}:∀ n,i < n→∀ m,n≤m→(bC rs S m).getD i false=(bC rs S n).getD i false:=by
 intro n Nd m hm
 induction m with
 | zero=>omega
 | succ m ih =>
   by_cases e:n=m+1
   · rw [e]
   · rw [← ih (by omega)]
     simp only [bC]
     exact F5 (by rw [eG]; omega)
noncomputable def Bs (rs:List Rw) (S:Int) (j:Nat):Bool:=(bC rs S rs.length).getD j false
noncomputable def uM (rs:List Rw) (S:Int) (n:Nat):Bool:=match ni (bq rs) n with
 | some h=>Bs rs S h
 | none=>false
theorem i_ {rs:List Rw} {S:Int} {n:Nat} {r:Rw} (hr:rs[n]?=some r):Bs rs S n=if k9 r=true then de rs S n else uM rs S n && Pq rs S n r:=by
 have hn:=(cn.mp hr).1
 unfold Bs
 rw [xc rs S (n+1) (xv _) rs.length hn]
 simp only [bC]
 rw [List.getD,sA (by rw [eG]; exact cA _),eG,Nat.sub_self,hr]
 show wx rs S (bC rs S n) n r=_
 unfold wx
 have:VZ rs (bC rs S n) n=uM rs S n:=by
  unfold VZ uM
  cases e:ni (bq rs) n with
  | none=>rfl
  | some h =>
    dsimp only
    exact (xc rs S n (r9 e) rs.length (by omega)).symm
 rw [this]
theorem dh (rs:List Rw) (S:Int):(aT rs S).length=rs.length:=by unfold aT; rw [List.length_mapIdx]
theorem cm {rs:List Rw} {S:Int} {n:Nat} {r:Rw} (hr:rs[n]?=some r):(aT rs S)[n]?=some (cq rs (bC rs S rs.length) n r):=by
 unfold aT
 rw [PQ,hr]; rfl
theorem bU {rs:List Rw} {S:Int} {n:Nat} {r:Rw} (h:Bs rs S n=true):cq rs (bC rs S rs.length) n r=r:=by
 unfold cq
 exact if_pos h
theorem dX {rs:List Rw} {S:Int} {n:Nat} {r:Rw} (h:Bs rs S n=false) (hg:eQ r=false):cq rs (bC rs S rs.length) n r = .skip:=by
 unfold cq
 rw [if_neg (by show ¬ Bs rs S n=true; rw [h]; exact c7)]
 cases r <;> first | rfl | cases hg
theorem cY {rs:List Rw} {S:Int} {n:Nat} {a:j1} (h:Bs rs S n=false):cq rs (bC rs S rs.length) n (.give a)=if Fd rs (bC rs S rs.length) n=true then .give (.nu 0) else .skip:=by
 unfold cq
 rw [if_neg (by show ¬ Bs rs S n=true; rw [h]; exact c7)]
theorem ky {rs:List Rw} {S:Int} {n d:Nat} (h:kA (bq rs) n=some d):Fd rs (bC rs S rs.length) n=Bs rs S d:=by
 unfold Fd
 rw [h]; rfl
theorem xf {rs:List Rw} {S:Int} {n:Nat} {r:Rw} (hr:rs[n]?=some r) (hd:k9 r=false) (h:Bs rs S n=true):uM rs S n=true∧Pq rs S n r=true:=by
 rw [i_ hr,if_neg (by rw [hd]; exact c7),kB] at h
 exact h
theorem oj {rs:List Rw} {S:Int} {n:Nat} (h:uM rs S n=true):∃ t j,st (bq rs) n=t ++ [j]∧ni (bq rs) n=some j∧Bs rs S j=true:=by
 unfold uM at h
 split at h
 · rename_i j e
   have e':=e
   unfold ni at e'
   rcases Lj (st (bq rs) n) with z | ⟨t,x,z⟩
   · rw [z] at e'; cases e'
   · rw [OQ] at z
     rw [z,Gx] at e'
     cases e'
     exact ⟨t,j,z,e,h⟩
 · cases h
theorem om {rs:List Rw} {n:Nat} (h:st (bq rs) n≠[]) (S:Int):∃ t j,st (bq rs) n=t ++ [j]∧ni (bq rs) n=some j∧uM rs S n=Bs rs S j:=by
 rcases Lj (st (bq rs) n) with z | ⟨t,x,z⟩
 · exact absurd z h
 · rw [OQ] at z
   have e:ni (bq rs) n=some x:=by unfold ni; rw [z,Gx]
   exact ⟨t,x,z,e,by unfold uM; rw [e]⟩
theorem sr {p:Nat→Bool} {t:List Nat} {j:Nat}:(t ++ [j]).filter p=t.filter p ++ if p j=true then [j] else []:=by
 rw [List.filter_append]
 congr 1
 simp only [List.filter_cons,List.filter_nil]
theorem lC {rs:List Rw} (W:rQ rs) (hb:dB (some []) rs=some []) (S:Int):∀ k≤rs.length,st (bq (aT rs S)) k=(st (bq rs) k).filter (Bs rs S)
 | 0,_=>rfl
 | k+1,hk=>by
   have ih:=lC W hb S k (by omega)
   have hr:rs[k]?=some rs[k]:=fD hk
   generalize rs[k]=r at hr
   have bW:=bP hr
   have lF:=bP (cm (S:=S) hr)
   have Sy:∀ {q:Rw},cq rs (bC rs S rs.length) k r=q→(au q).cl=false→(au q).op=false→st (bq (aT rs S)) (k+1)=(st (bq rs) k).filter (Bs rs S):=fun e h1 h2=>by
    rw [e] at lF
    rw [i6 (by rw [lF]; exact h1) (by rw [lF]; exact h2),ih]
   cases hB:Bs rs S k with
   | true =>
     have el:=bU (r:=r) hB
     rw [el] at lF
     by_cases ho:(au r).op=true
     · have hc:=W.ex k hk (by rw [bW]; exact ho)
       rw [bW] at hc
       rw [gL (kd:=bq rs) (by rw [bW]; exact ho) (by rw [bW]; exact hc),gL (kd:=bq (aT rs S)) (by rw [lF]; exact ho) (by rw [lF]; exact hc),sr,if_pos hB,ih]
     · have gx:(au r).op=false:=by cases q:(au r).op <;> simp_all
       by_cases hc:(au r).cl=true
       · have hd:k9 r=false:=by cases r <;> first | rfl | cases hc
         obtain ⟨t,j,e1,e2,e3⟩:=oj (xf hr hd hB).1
         rw [d4 (kd:=bq rs) (by rw [bW]; exact hc) (by rw [bW]; exact gx),d4 (kd:=bq (aT rs S)) (by rw [lF]; exact hc) (by rw [lF]; exact gx),ih,e1,sr,if_pos e3,uL,uL]
       · have jS:(au r).cl=false:=by cases q:(au r).cl <;> simp_all
         rw [Sy el jS gx,i6 (by rw [bW]; exact jS) (by rw [bW]; exact gx)]
   | false =>
     by_cases hg:eQ r=true
     · obtain ⟨a,rfl⟩:∃ a,r = .give a:=by cases r <;> first | exact ⟨_,rfl⟩ | cases hg
       obtain ⟨d,hd,hh,hm⟩:=fP hb hr
       have el:=cY (a:=a) hB
       rw [ky hm] at el
       rw [d4 (kd:=bq rs) (by rw [bW]; rfl) (by rw [bW]; rfl),hd]
       cases xg:Bs rs S d with
       | true =>
         rw [xg,if_pos rfl] at el
         rw [el] at lF
         rw [d4 (kd:=bq (aT rs S)) (by rw [lF]; rfl) (by rw [lF]; rfl),ih,hd]
         show ([d].filter (Bs rs S)).dropLast=[].filter (Bs rs S)
         simp [xg]
       | false =>
         rw [xg,if_neg c7] at el
         rw [Sy el rfl rfl,hd]
         show [d].filter (Bs rs S)=[].filter (Bs rs S)
         simp [xg]
     · have Sz:eQ r=false:=by cases q:eQ r <;> simp_all
       rw [Sy (dX hB Sz) rfl rfl]
       by_cases ho:(au r).op=true
       · have hc:=W.ex k hk (by rw [bW]; exact ho)
         rw [bW] at hc
         rw [gL (by rw [bW]; exact ho) (by rw [bW]; exact hc),sr,if_neg (by rw [hB]; exact c7),xw]
       · have gx:(au r).op=false:=by cases q:(au r).op <;> simp_all
         by_cases hc:(au r).cl=true
         · have hf:r = .fin:=by cases r <;> first | rfl | (exact (c7 Sz.symm).elim) | (exact (c7 hc).elim)
           subst hf
           obtain ⟨t,j,e1,e2,e3⟩:=om (W.cl k hk (by rw [bW]; rfl)) S
           have:Bs rs S j=false:=by
            rw [i_ hr] at hB
            have h2:(uM rs S k && true)=false:=hB
            rw [Bool.and_true,e3] at h2
            exact h2
           rw [d4 (by rw [bW]; rfl) (by rw [bW]; rfl),e1,sr,this,if_neg c7,xw,uL]
         · have jS:(au r).cl=false:=by cases q:(au r).cl <;> simp_all
           rw [i6 (kd:=bq rs) (by rw [bW]; exact jS) (by rw [bW]; exact gx)]
noncomputable def kD (p:Nat→Bool):List Str→List Nat→List Str
 | x :: s,j :: t=>if p j=true then x :: kD p s t else kD p s t
 | _,_=>[]
theorem gS {p:Nat→Bool} {x:Str} {j:Nat}:∀ (s:List Str) (t:List Nat),s.length=t.length→kD p (s ++ [x]) (t ++ [j])=kD p s t ++ if p j=true then [x] else []
 | [],[],_=>by simp [kD]
 | y :: s,i :: t,h=>by
   have ih:=gS (p:=p) (x:=x) (j:=j) s t (by simpa using h)
   simp only [Vb,kD,ih]
   split <;> rfl
 | [],_ :: _,h=>by cases h
 | _ :: _,[],h=>by cases h
theorem BW {s s':List Str} {x:Str} (h:s.getLast?=s'.getLast?) (w:Str):cc s w=cc s' w:=by unfold cc; rw [h]
theorem su (s:List Str):cc s "skip" = true:=by
 unfold cc
 cases s.getLast? with
 | none=>decide +kernel
 | some l =>
   show (if _ then _ else _)=true
   rw [if_neg (by decide +kernel),if_neg (by decide +kernel),if_neg (by decide +kernel)]
   decide +kernel
theorem xh (s:List Str):fE s "skip" = s:=by unfold fE; rw [if_neg (by decide +kernel),if_neg (by decide +kernel),if_neg (by decide +kernel)]
theorem ur {s:List Str} {r:Rw} (ho:(au r).op=false) (hc:(au r).cl=false) (he:(au r).el=false):fE s (wd r)=s:=by
 cases r <;> first
  | (exact (c7 ho.symm).elim)
  | (exact (c7 hc.symm).elim)
  | (exact (c7 he.symm).elim)
  | (unfold fE; rw [if_neg (by simp only [wd]; decide +kernel),if_neg (by simp only [wd]; decide +kernel),if_neg (by simp only [wd]; decide +kernel)])
theorem pV {s:List Str} {r:Rw} (ho:(au r).op=true):fE s (wd r)=s ++ [wd r]:=by
 cases r <;> first
  | exact og s
  | exact tJ s
  | exact ia s
  | (exact (c7 ho).elim)
theorem pW {s:List Str} {r:Rw} (hc:(au r).cl=true):fE s (wd r)=s.dropLast:=by
 cases r <;> first
  | exact kZ s
  | exact kY s
  | (exact (c7 hc).elim)
theorem F6 {s:List Str} {f:Str} {ps:List Str} (hm:cc s (wd (.df f ps))=true):s=[]:=by
 cases hl:s.getLast? with
 | none=>exact PM.mp hl
 | some l =>
   unfold cc at hm
   rw [hl] at hm
   have:(if (("def" : Str)="give") then decide (l="def") else if (("def" : Str)="else") then decide (l="if") else if (("def" : Str)="end") then !decide (l="def") else !decide (("def" : Str)="def"))=true:=hm
   rw [if_neg (by decide +kernel),if_neg (by decide +kernel),if_neg (by decide +kernel)] at this
   simp at this
theorem uu {s:List Str} {t:List Nat} {j:Nat} (h:s.length=(t ++ [j]).length):∃ s0 x,s=s0 ++ [x]∧s0.length=t.length:=by
 rcases Lj s with z | ⟨s0,x,z⟩
 · rw [z] at h; simp at h
 · rw [OQ] at z
   rw [z] at h
   exact ⟨s0,x,z,by simpa using h⟩
theorem xi {rs:List Rw} (W:rQ rs) (hb:dB (some []) rs=some []) (S:Int):∀ k≤rs.length,∀ s,dB (some []) (rs.take k)=some s→dB (some []) ((aT rs S).take k)=some (kD (Bs rs S) s (st (bq rs) k))
 | 0,_,s,hs=>by
   have:s=[]:=by simpa [dB] using hs.symm
   subst this
   simp [dB,kD]
 | k+1,hk,s',GL=>by
   have hr:rs[k]?=some rs[k]:=fD hk
   generalize rs[k]=r at hr
   obtain ⟨s,hs,hm,hn⟩:=gf hb k hr
   rw [GL] at hn
   cases hn
   obtain ⟨s1,g1,g2,g3⟩:=kx hb k (by omega)
   rw [hs] at g1
   cases g1
   have ih:=xi W hb S k (by omega) s hs
   have bW:=bP hr
   have hra:=cm (S:=S) hr
   have e2:(aT rs S).take (k+1)=(aT rs S).take k ++ [cq rs (bC rs S rs.length) k r]:=by
    have hg:=(cn.mp hra).2
    rw [← hg,List.take_append_getElem]
   rw [e2,gK,ih]
   suffices h:∀ q,cq rs (bC rs S rs.length) k r=q→cc (kD (Bs rs S) s (st (bq rs) k)) (wd q)=true∧fE (kD (Bs rs S) s (st (bq rs) k)) (wd q)=kD (Bs rs S) (fE s (wd r)) (st (bq rs) (k+1)) by
    obtain ⟨h1,h2⟩:=h _ rfl
    rw [cy h1,h2]
   rintro q hq
   have SA:q = .skip→kD (Bs rs S) s (st (bq rs) k)=kD (Bs rs S) (fE s (wd r)) (st (bq rs) (k+1))→cc (kD (Bs rs S) s (st (bq rs) k)) (wd q)=true∧fE (kD (Bs rs S) s (st (bq rs) k)) (wd q)=kD (Bs rs S) (fE s (wd r)) (st (bq rs) (k+1)):=fun h1 h2=>by
    subst h1
    exact ⟨su _,(xh _).trans h2⟩
   cases hB:Bs rs S k with
   | true =>
     rw [bU hB] at hq
     subst hq
     by_cases hd:k9 r=true
     · obtain ⟨f,ps,rfl⟩:∃ f ps,r = .df f ps:=tY hd
       have e0:=F6 hm
       subst e0
       have e1:st (bq rs) k=[]:=Cn.mp g3.symm
       rw [gL (by rw [bW]; rfl) (by rw [bW]; rfl),e1,pV rfl]
       refine ⟨hm,?_⟩
       rw [pV rfl]
       simp [kD,hB]
     · have AD:k9 r=false:=by cases q:k9 r <;> simp_all
       obtain ⟨t,j,e1,e3,e4⟩:=oj (xf hr AD hB).1
       obtain ⟨s0,x,rfl,hl⟩:=uu (s:=s) (t:=t) (j:=j) (by rw [g3,e1])
       have ef:kD (Bs rs S) (s0 ++ [x]) (st (bq rs) k)=kD (Bs rs S) s0 t ++ [x]:=by rw [e1,gS _ _ hl,if_pos e4]
       refine ⟨?_,?_⟩
       · rw [ef,BW (s':=s0 ++ [x]) (x:=x) (by rw [Gx,Gx])]; exact hm
       · by_cases ho:(au r).op=true
         · have hc:=W.ex k hk (by rw [bW]; exact ho)
           rw [bW] at hc
           rw [pV ho,pV ho,gL (by rw [bW]; exact ho) (by rw [bW]; exact hc),gS _ _ g3,if_pos hB]
         · have gx:(au r).op=false:=by cases q:(au r).op <;> simp_all
           by_cases hc:(au r).cl=true
           · rw [pW hc,pW hc,ef,d4 (by rw [bW]; exact hc) (by rw [bW]; exact gx),e1,uL,uL,uL]
           · have jS:(au r).cl=false:=by cases q:(au r).cl <;> simp_all
             rw [i6 (by rw [bW]; exact jS) (by rw [bW]; exact gx)]
             by_cases he:(au r).el=true
             · have:r = .qF:=by cases r <;> first | rfl | (exact (c7 he).elim)
               subst this
               show fE _ "else" = kD _ (fE _ "else") _
               rw [ic,ic,ef,uL,uL,e1,gS _ _ hl,if_pos e4]
             · have V1:(au r).el=false:=by cases q:(au r).el <;> simp_all
               rw [ur gx jS V1,ur gx jS V1]
   | false =>
     by_cases hg:eQ r=true
     · obtain ⟨a,rfl⟩:∃ a,r = .give a:=by cases r <;> first | exact ⟨_,rfl⟩ | cases hg
       obtain ⟨d,hd,hh,hmm⟩:=fP hb hr
       have el:=cY (a:=a) hB
       rw [ky hmm,hq] at el
       obtain ⟨s0,x,rfl,hl⟩:=uu (s:=s) (t:=[]) (j:=d) (by rw [g3,hd]; rfl)
       have e0:s0=[]:=Cn.mp hl
       subst e0
       rw [pW (r:=.give a) rfl,d4 (by rw [bW]; rfl) (by rw [bW]; rfl),hd]
       cases xg:Bs rs S d with
       | true =>
         rw [xg,if_pos rfl] at el
         subst el
         have ef:kD (Bs rs S) ([] ++ [x]) [d]=[x]:=by simp [kD,xg]
         rw [ef]
         refine ⟨hm,?_⟩
         rw [pW (r:=.give (.nu 0)) rfl]
         rfl
       | false =>
         rw [xg,if_neg c7] at el
         subst el
         have ef:kD (Bs rs S) ([] ++ [x]) [d]=[]:=by simp [kD,xg]
         rw [ef]
         exact ⟨su _,xh _⟩
     · have Sz:eQ r=false:=by cases q:eQ r <;> simp_all
       rw [dX hB Sz] at hq
       refine SA hq.symm ?_
       by_cases ho:(au r).op=true
       · have hc:=W.ex k hk (by rw [bW]; exact ho)
         rw [bW] at hc
         rw [pV ho,gL (by rw [bW]; exact ho) (by rw [bW]; exact hc),gS _ _ g3,if_neg (by rw [hB]; exact c7),xw]
       · have gx:(au r).op=false:=by cases q:(au r).op <;> simp_all
         have hdd:k9 r=false:=by cases r <;> first | rfl | (exact (c7 gx.symm).elim)
         have Pg:Pq rs S k r=true→st (bq rs) k≠[]→∃ t j s0 x,st (bq rs) k=t ++ [j]∧Bs rs S j=false∧s=s0 ++ [x]∧s0.length=t.length:=fun hi gG=>by
          obtain ⟨t,j,e1,e2,e3⟩:=om gG S
          obtain ⟨s0,x,es,hl⟩:=uu (s:=s) (t:=t) (j:=j) (by rw [g3,e1])
          refine ⟨t,j,s0,x,e1,?_,es,hl⟩
          rw [i_ hr,if_neg (by rw [hdd]; exact c7),hi,Bool.and_true,e3] at hB
          exact hB
         by_cases hc:(au r).cl=true
         · have hf:r = .fin:=by cases r <;> first | rfl | (exact (c7 Sz.symm).elim) | (exact (c7 hc).elim)
           subst hf
           obtain ⟨t,j,s0,x,e1,e2,rfl,hl⟩:=Pg rfl (W.cl k hk (by rw [bW]; rfl))
           rw [pW rfl,d4 (by rw [bW]; rfl) (by rw [bW]; rfl),e1,gS _ _ hl,if_neg (by rw [e2]; exact c7),xw,uL,uL]
         · have jS:(au r).cl=false:=by cases q:(au r).cl <;> simp_all
           rw [i6 (by rw [bW]; exact jS) (by rw [bW]; exact gx)]
           by_cases he:(au r).el=true
           · have:r = .qF:=by cases r <;> first | rfl | (exact (c7 he).elim)
             subst this
             obtain ⟨t,j,s0,x,e1,e2,rfl,hl⟩:=Pg rfl (W.el k hk (by rw [bW]; rfl))
             show _=kD _ (fE _ "else") _
             rw [ic,uL,e1,gS _ _ hl,gS _ _ hl,if_neg (by rw [e2]; exact c7)]
             rw [if_neg (by rw [e2]; exact c7)]
           · have V1:(au r).el=false:=by cases q:(au r).el <;> simp_all
             rw [ur gx jS V1]
theorem F7 {rs:List Rw} (W:rQ rs) (hb:dB (some []) rs=some []) (S:Int):dB (some []) (aT rs S)=some []:=by
 have h:=xi W hb S rs.length (cA _) [] (by rw [OW]; exact hb)
 rw [List.take_of_length_le (by rw [dh]; exact cA _)] at h
 rw [h]
 have:st (bq rs) rs.length=[]:=W.fin
 rw [this]; rfl
noncomputable def PB:Rw→Bool
 | .qF=>true
 | .fin=>true
 | .skip=>true
 | _=>false
theorem JM {b:Bool} (h:¬ b=true):b=false:=by cases b <;> simp_all
theorem iu {rs:List Rw} (hb:dB (some []) rs=some []) {k:Nat} {r:Rw} (hr:rs[k]?=some r) (hd:k9 r=false) (hs:r≠.skip):st (bq rs) k≠[]:=by
 have hk:=(cn.mp hr).1
 obtain ⟨s,h1,h2,h3⟩:=kx hb k (by omega)
 obtain ⟨s',g1,g2,_⟩:=gf hb k hr
 rw [h1] at g1
 cases g1
 have hn:s≠[]:=iX g2 (by cases r <;> first | (simp only [wd]; decide +kernel) | (exact (c7 hd.symm).elim)) (by cases r <;> first | exact (hs rfl).elim | (simp only [wd]; decide +kernel))
 intro z
 rw [z] at h3
 exact hn (Cn.mp h3)
theorem zu {r:Rw} (h:(au r).op=true):r≠.skip:=by rintro rfl; cases h
theorem Lc {rs:List Rw} (hb:dB (some []) rs=some []) {k:Nat} {f:Str} {ps:List Str} (hr:rs[k]?=some (.df f ps)):st (bq rs) k=[]:=by
 have hk:=(cn.mp hr).1
 obtain ⟨s,h1,h2,h3⟩:=kx hb k (by omega)
 obtain ⟨s',g1,g2,_⟩:=gf hb k hr
 rw [h1] at g1
 cases g1
 have:=F6 g2
 rw [this] at h3
 exact Cn.mp h3.symm
theorem JN {rs:List Rw} (W:rQ rs) (hb:dB (some []) rs=some []) (S:Int):rQ (aT rs S):=by
 have at':∀ {k:Nat},k < (aT rs S).length→∃ r,rs[k]?=some r∧bq (aT rs S) k=au (cq rs (bC rs S rs.length) k r):=fun {k} hk=>by
  rw [dh] at hk
  have hr:rs[k]?=some rs[k]:=fD hk
  exact ⟨_,hr,bP (cm hr)⟩
 have ne:∀ {k:Nat} {r:Rw},rs[k]?=some r→(au (cq rs (bC rs S rs.length) k r)).cl=true∨(au (cq rs (bC rs S rs.length) k r)).el=true→st (bq (aT rs S)) k≠[]:=fun {k r} hr hc=>by
  have hk:=(cn.mp hr).1
  rw [lC W hb S k (by omega)]
  cases hB:Bs rs S k with
  | true =>
    rw [bU hB] at hc
    have hd:k9 r=false:=by cases r <;> first | rfl | (rcases hc with z | z <;> cases z)
    obtain ⟨t,j,e1,e2,e3⟩:=oj (xf hr hd hB).1
    rw [e1,sr,if_pos e3]
    simp
  | false =>
    by_cases hg:eQ r=true
    · obtain ⟨a,rfl⟩:∃ a,r = .give a:=by cases r <;> first | exact ⟨_,rfl⟩ | cases hg
      obtain ⟨d,hd,hh,hm⟩:=fP hb hr
      rw [cY hB,ky hm] at hc
      cases xg:Bs rs S d with
      | true=>rw [hd]; simp [xg]
      | false =>
        rw [xg,if_neg c7] at hc
        rcases hc with z | z <;> cases z
    · rw [dX hB (JM hg)] at hc
      rcases hc with z | z <;> cases z
 refine ⟨fun k hk h=>?_,fun k hk h=>?_,fun k hk h=>?_,fun k hk h=>?_,fun k hk h=>?_,?_⟩
 · obtain ⟨r,hr,e⟩:=at' hk
   rw [e] at h ⊢
   generalize cq rs (bC rs S rs.length) k r=q at h ⊢
   cases q <;> first | rfl | cases h
 · obtain ⟨r,hr,e⟩:=at' hk
   rw [e] at h
   exact ne hr (.inl h)
 · obtain ⟨r,hr,e⟩:=at' hk
   rw [e] at h
   exact ne hr (.inr h)
 · obtain ⟨r,hr,e⟩:=at' hk
   rw [e] at h ⊢
   generalize cq rs (bC rs S rs.length) k r=q at h ⊢
   cases q <;> first | exact ⟨rfl,rfl⟩ | cases h
 · obtain ⟨r,hr,e⟩:=at' hk
   rw [e] at h ⊢
   generalize cq rs (bC rs S rs.length) k r=q at h ⊢
   cases q <;> first | rfl | cases h
 · rw [dh,lC W hb S rs.length (cA _)]
   have:st (bq rs) rs.length=[]:=W.fin
   rw [this]; rfl
theorem Ap (rs:List Rw) (S:Int) (n:Nat) (r:Rw):cq rs (bC rs S rs.length) n r=r∨cq rs (bC rs S rs.length) n r = .skip∨cq rs (bC rs S rs.length) n r = .give (.nu 0):=by
 cases hB:Bs rs S n with
 | true=>exact .inl (bU hB)
 | false =>
   by_cases hg:eQ r=true
   · obtain ⟨a,rfl⟩:∃ a,r = .give a:=by cases r <;> first | exact ⟨_,rfl⟩ | cases hg
     rw [cY hB]
     split
     · exact .inr (.inr rfl)
     · exact .inr (.inl rfl)
   · exact .inr (.inl (dX hB (JM hg)))
theorem jP {rs:List Rw} {S:Int} {n:Nat} {q:Rw} (h:(aT rs S)[n]?=some q) (hs:q≠.skip) (hg:eQ q=false):rs[n]?=some q∧Bs rs S n=true:=by
 have hn:=(cn.mp h).1
 rw [dh] at hn
 have hr:rs[n]?=some rs[n]:=fD hn
 generalize rs[n]=r at hr
 rw [cm hr] at h
 have e:=Option.some.inj h
 cases hB:Bs rs S n with
 | true=>rw [bU hB] at e; rw [hr,e]; exact ⟨rfl,rfl⟩
 | false =>
   exfalso
   by_cases hgr:eQ r=true
   · obtain ⟨a,rfl⟩:∃ a,r = .give a:=by cases r <;> first | exact ⟨_,rfl⟩ | cases hgr
     rw [cY hB] at e
     split at e
     · rw [← e] at hg; cases hg
     · exact hs e.symm
   · rw [dX hB (JM hgr)] at e
     exact hs e.symm
theorem xj {rs:List Rw} (D:dw rs) {S:Int} {n:Nat} {x f:Str} {as:List j1} (hr:rs[n]?=some (.call x f as)) (h:Pq rs S n (.call x f as)=true):∃ (j:Nat) (ps:List Str),n < j∧rs[j]?=some (.df f ps)∧ps.length=as.length∧de rs S j=true∧ib S n=true:=by
 obtain ⟨j,ps,h1,h2,h3⟩:=D.ca n x f as hr
 have hf:=D.first h2
 have h':((match ng (aH rs rs.length) f with
  | some j=>de rs S j
  | none=>false) && ib S n)=true:=h
 rw [hf,kB] at h'
 exact ⟨j,ps,h1,h2,h3,h'.1,h'.2⟩
theorem mW {rs:List Rw} (D:dw rs) (S:Int):dw (aT rs S):=by
 refine ⟨fun i i' f ps zT h h'=>?_,fun i x f as h=>?_⟩
 · exact D.un i i' f ps zT (jP h (by simp) rfl).1 (jP h' (by simp) rfl).1
 · obtain ⟨hr,hB⟩:=jP h (by simp) rfl
   obtain ⟨j,ps,h1,h2,h3,h4,_⟩:=xj D hr (xf hr rfl hB).2
   have YJ:Bs rs S j=true:=by rw [i_ h2]; exact h4
   exact ⟨j,ps,h1,by rw [cm h2,bU YJ],h3⟩
theorem xk {rs:List Rw} (W:rQ rs) (hb:dB (some []) rs=some []) (D:dw rs) {S:Int} (hS:∀ p r,rs[p]?=some r→PB r=false→ib S p=true):aT rs S=rs:=by
 have key:∀ n i,i < n→∀ r,rs[i]?=some r→r≠.skip→Bs rs S i=true:=by
  intro n
  induction n with
  | zero=>intro i hi; omega
  | succ n ih =>
    intro i hi r hr hs
    rw [i_ hr]
    by_cases hd:k9 r=true
    · rw [if_pos hd]
      unfold de
      rw [hS i r hr (by cases r <;> first | rfl | cases hd),O6]
    · rw [if_neg hd]
      have AD:=JM hd
      obtain ⟨t,j,e1,e2,e3⟩:=om (iu hb hr AD hs) S
      have hj:j < i:=r9 e2
      have SD:=(cn.mp hr).1
      have ho:=Ao W (by omega) e2
      have GU:rs[j]?=some rs[j]:=fD (by omega)
      rw [bP GU] at ho
      rw [e3,ih j (by omega) _ GU (zu ho),uN]
      cases r with
      | qF=>rfl
      | fin=>rfl
      | skip=>exact absurd rfl hs
      | df f ps=>cases AD
      | call x f as =>
        obtain ⟨j',ps,h1,h2,h3⟩:=D.ca i x f as hr
        show ((match ng (aH rs rs.length) f with
         | some j=>de rs S j
         | none=>false) && ib S i)=true
        rw [D.first h2,hS i _ hr rfl,Bool.and_true]
        show de rs S j'=true
        unfold de
        rw [hS j' _ h2 rfl,O6]
      | _=>exact hS i _ hr rfl
 refine Gy fun i=>?_
 by_cases hi:i < rs.length
 · have hr:rs[i]?=some rs[i]:=fD hi
   rw [cm hr,hr]
   generalize rs[i]=r at hr
   by_cases hs:r = .skip
   · subst hs
     cases hB:Bs rs S i with
     | true=>rw [bU hB]
     | false=>rw [dX hB rfl]
   · rw [bU (key (i+1) i (xv _) r hr hs)]
 · rw [xH (by rw [dh]; omega),xH (by omega)]
theorem BX {rs:List Rw} {S:Int} {f0:Nat} (h:cp rs=some f0):cp (aT rs S)=some f0:=by
 obtain ⟨⟨g,ps,hi⟩,hm⟩:=bI h
 have hB:Bs rs S f0=true:=by
  rw [i_ hi]
  show de rs S f0=true
  unfold de
  rw [h,decide_eq_true rfl,Ln]
 have xE:(aT rs S)[f0]?=some (.df g ps):=by rw [cm hi,bU hB]
 cases e:cp (aT rs S) with
 | none=>exact absurd xE (mB e f0 g ps)
 | some i =>
   obtain ⟨⟨g',zT,Dp⟩,YK⟩:=bI e
   have h1:=jP Dp (by simp) rfl
   rcases OT i f0 with z | z | z
   · exact absurd h1.1 (hm i z g' zT)
   · rw [z]
   · exact absurd xE (YK f0 z g ps)
theorem y4 {rs:List Rw} (W:rQ rs) (hb:dB (some []) rs=some []) (D:dw rs) {S S':Int} (hS:∀ p r,rs[p]?=some r→PB r=false→ib S p=true→(aT rs S)[p]?=some r→ib S' p=true):aT (aT rs S) S'=aT rs S:=by
 have D':=mW D S
 have dst:∀ j f ps,rs[j]?=some (.df f ps)→de rs S j=true→de (aT rs S) S' j=true:=fun j f ps hj hd=>by
  have hB:Bs rs S j=true:=by rw [i_ hj]; exact hd
  unfold de at hd ⊢
  rw [Bool.or_eq_true] at hd
  rcases hd with z | z
  · rw [BX (of_decide_eq_true z),decide_eq_true rfl,Ln]
  · rw [hS j _ hj rfl z (by rw [cm hj,bU hB]),O6]
 have key:∀ n i,i < n→∀ r,rs[i]?=some r→r≠.skip→Bs rs S i=true→Bs (aT rs S) S' i=true:=by
  intro n
  induction n with
  | zero=>intro i hi; omega
  | succ n ih =>
    intro i hi r hr hs hB
    have xE:(aT rs S)[i]?=some r:=by rw [cm hr,bU hB]
    have SD:=(cn.mp hr).1
    rw [i_ xE]
    by_cases hd:k9 r=true
    · rw [if_pos hd]
      obtain ⟨f,ps,rfl⟩:=tY hd
      rw [i_ hr] at hB
      exact dst i f ps hr hB
    · rw [if_neg hd]
      have AD:=JM hd
      obtain ⟨hu,Nd⟩:=xf hr AD hB
      obtain ⟨t,j,e1,e2,e3⟩:=oj hu
      have hj:j < i:=r9 e2
      have ho:=Ao W (by omega) e2
      have GU:rs[j]?=some rs[j]:=fD (by omega)
      rw [bP GU] at ho
      have hh:ni (bq (aT rs S)) i=some j:=by
       unfold ni
       rw [lC W hb S i (by omega),e1,sr,if_pos e3,Gx]
      have cF:uM (aT rs S) S' i=true:=by
       unfold uM
       rw [hh]
       exact ih j (by omega) _ GU (zu ho) e3
      rw [cF,uN]
      cases r with
      | qF=>rfl
      | fin=>rfl
      | skip=>exact absurd rfl hs
      | df f ps=>cases AD
      | call x f as =>
        obtain ⟨j',ps,h1,h2,h3,h4,h5⟩:=xj D hr Nd
        have YJ:Bs rs S j'=true:=by rw [i_ h2]; exact h4
        have YL:(aT rs S)[j']?=some (.df f ps):=by rw [cm h2,bU YJ]
        show ((match ng (aH (aT rs S) (aT rs S).length) f with
         | some j=>de (aT rs S) S' j
         | none=>false) && ib S' i)=true
        rw [D'.first YL,hS i _ hr rfl h5 xE,Bool.and_true]
        exact dst j' f ps h2 h4
      | _=>exact hS i _ hr rfl Nd xE
 refine Gy fun i=>?_
 by_cases hi:i < rs.length
 · have hr:rs[i]?=some rs[i]:=fD hi
   generalize rs[i]=r at hr
   have xE:=cm (S:=S) hr
   rw [cm xE,xE]
   have SA:∀ q,q=Rw.skip→some (cq (aT rs S) (bC (aT rs S) S' (aT rs S).length) i q)=some q:=by
    rintro q rfl
    cases hB:Bs (aT rs S) S' i with
    | true=>rw [bU hB]
    | false=>rw [dX hB rfl]
   cases hB:Bs rs S i with
   | true =>
     rw [bU hB]
     by_cases hs:r = .skip
     · exact SA r hs
     · rw [bU (key (i+1) i (xv _) r hr hs hB)]
   | false =>
     by_cases hg:eQ r=true
     · obtain ⟨a,rfl⟩:∃ a,r = .give a:=by cases r <;> first | exact ⟨_,rfl⟩ | cases hg
       obtain ⟨d,hd,hh,hm⟩:=fP hb hr
       have el:=cY (a:=a) hB
       rw [ky hm] at el
       cases xg:Bs rs S d with
       | false =>
         rw [xg,if_neg c7] at el
         exact SA _ el
       | true =>
         rw [xg,if_pos rfl] at el
         rw [el]
         cases hB':Bs (aT rs S) S' i with
         | true=>rw [bU hB']
         | false =>
           have lF:=bP xE
           rw [el] at lF
           have YK:kA (bq (aT rs S)) i=some d:=by
            unfold kA
            rw [lF,lC W hb S i (by omega),hd]
            simp [au,xg]
           have DQ:d < rs.length:=by have:=r9 hh; omega
           have GF:rs[d]?=some rs[d]:=fD DQ
           have ho:=Ao W (by omega) hh
           rw [bP GF] at ho
           rw [cY hB',ky YK,key (d+1) d (xv _) _ GF (zu ho) xg,if_pos rfl]
     · exact SA _ (dX hB (JM hg))
 · rw [xH (by rw [dh,dh]; omega),xH (by rw [dh]; omega)]
end On
namespace On
open PySem L2 VT Gen K5 Lay BS
open PySem.Builtin (bitOr)
theorem uv {b:Int} {p:Nat} (h:ib b p=false):b+2 ^ p=bitOr b (2 ^ p):=E_ fun k=>by
 rw [Ae,t9]
 have hp:b / 2 ^ p % 2=0:=by
  have:=of_decide_eq_false h
  omega
 have np:∀ m:Nat,(2:Int) ^ m≠0:=fun m=>Int.ne_of_gt (two_pos m)
 unfold ib
 rcases OT k p with hk | hk | hk
 · have e:(2:Int) ^ p=2 ^ (p - k - 1) * 2 * 2 ^ k:=by rw [← Int.pow_succ,← Int.pow_add]; congr 1; omega
   rw [e,U3 _ _ (np k),decide_eq_false (show ¬ k=p by omega),Bool.or_false]
   generalize (2:Int) ^ (p - k - 1)=t
   congr 1
   simp only [eq_iff_iff]
   omega
 · subst hk
   have e:b+2 ^ k=b+1 * 2 ^ k:=by rw [Int.one_mul]
   rw [e,U3 _ _ (np k),decide_eq_true rfl,O6]
   exact decide_eq_true (by omega)
 · rw [decide_eq_false (show ¬ k=p by omega),Bool.or_false]
   have e1:(2:Int) ^ k=2 ^ (p+1) * 2 ^ (k - p - 1):=by rw [← Int.pow_add]; congr 1; omega
   have hb:b=b / 2 ^ p * 2 ^ p+b % 2 ^ p:=by have:=Int.mul_ediv_add_emod b (2 ^ p); rw [Int.mul_comm] at this; omega
   have r0:=kC b (np p)
   have r1:=lT b (two_pos p)
   obtain ⟨c,hc⟩:∃ c,b / 2 ^ p=2 * c:=⟨b / 2 ^ p / 2,by omega⟩
   have e2:(2:Int) ^ (p+1)=2 ^ p * 2:=Int.pow_succ 2 p
   have yq:b=(b % 2 ^ p)+c * 2 ^ (p+1):=by
    rw [e2]
    have:c * (2 ^ p * 2)=2 * c * 2 ^ p:=by rw [Int.mul_comm (2 ^ p) 2,← Int.mul_assoc,Int.mul_comm c 2]
    rw [this,← hc]
    omega
   have q1:b / 2 ^ (p+1)=c:=by
    rw [yq,U3 _ _ (np (p+1)),Wg (kC _ (np p)) (by rw [e2]; have:=lT (b % 2 ^ p+c * 2 ^ (p+1)) (two_pos p); omega)]
    omega
   have q2:(b+2 ^ p) / 2 ^ (p+1)=c:=by
    have:b+2 ^ p=(b % 2 ^ p+2 ^ p)+c * 2 ^ (p+1):=by omega
    rw [this,U3 _ _ (np (p+1)),Wg (by omega) (by rw [e2]; omega)]
    omega
   rw [e1,← Wc (Int.le_of_lt (two_pos (p+1))),← Wc (Int.le_of_lt (two_pos (p+1))),q1,q2]
theorem two {rs:List Rw} (hb:dB (some []) rs=some []) {k:Nat} {r:Rw} (hr:rs[k]?=some r) (he:r = .qF∨r = .fin):2≤(st (bq rs) k).length:=by
 have hk:=(cn.mp hr).1
 obtain ⟨s,h1,h2,h3⟩:=kx hb k (by omega)
 obtain ⟨s',g1,g2,_⟩:=gf hb k hr
 rw [h1] at g1
 cases g1
 rw [← h3]
 rcases h2 with rfl | ⟨t,rfl,ht⟩
 · rcases he with rfl | rfl
   · exact absurd rfl (iX g2 (by simp only [wd]; decide +kernel) (by simp only [wd]; decide +kernel))
   · exact absurd rfl (iX g2 (by simp only [wd]; decide +kernel) (by simp only [wd]; decide +kernel))
 · cases t with
   | nil =>
     exfalso
     rcases he with rfl | rfl
     · have:cc [kX] "else" = false:=by decide +kernel
       exact c7 (this.symm.trans g2)
     · have:cc [kX] "end" = false:=by decide +kernel
       exact c7 (this.symm.trans g2)
   | cons a t=>simp
theorem uw {r:Rw} (h:(au r).op=true):(∃ f ps,r = .df f ps)∨(∃ a,r = .Bb a)∨∃ a,r = .tE a:=by
 cases r <;> first
  | exact .inl ⟨_,_,rfl⟩
  | exact .inr (.inl ⟨_,rfl⟩)
  | exact .inr (.inr ⟨_,rfl⟩)
  | cases h
section
variable {rs:List Rw}
theorem F8 {j f0:Nat} (hm:cp rs=some f0) {r:Rw} (hr:rs[j]?=some r) (ho:(au r).op=true):Bs rs 0 j=decide (j=f0):=by
 rw [i_ hr]
 rcases uw ho with ⟨f,ps,rfl⟩ | ⟨a,rfl⟩ | ⟨a,rfl⟩
 · show de rs 0 j=_
   unfold de
   rw [hm,eW,Bool.or_false]
   by_cases e:j=f0
   · rw [e,decide_eq_true rfl,decide_eq_true rfl]
   · rw [decide_eq_false e,decide_eq_false fun z=>e (Option.some.inj z).symm]
 · show (uM rs 0 j && ib 0 j)=_
   rw [eW,G3]
   refine (decide_eq_false fun e=>?_).symm
   subst e
   obtain ⟨⟨f,ps,h⟩,_⟩:=bI hm
   rw [hr] at h
   cases h
 · show (uM rs 0 j && ib 0 j)=_
   rw [eW,G3]
   refine (decide_eq_false fun e=>?_).symm
   subst e
   obtain ⟨⟨f,ps,h⟩,_⟩:=bI hm
   rw [hr] at h
   cases h
theorem YM (W:rQ rs) (hb:dB (some []) rs=some []) {i f0:Nat} (hm:cp rs=some f0) {r:Rw} (hr:rs[i]?=some r):Bs rs 0 i=decide (i=f0):=by
 have hi:=(cn.mp hr).1
 by_cases ho:(au r).op=true
 · exact F8 hm hr ho
 · have gG:¬ i=f0:=fun e=>by
    subst e
    obtain ⟨⟨f,ps,h⟩,_⟩:=bI hm
    rw [hr] at h
    cases h
    exact ho rfl
   rw [decide_eq_false gG,i_ hr]
   have up:2≤(st (bq rs) i).length→uM rs 0 i=false:=fun h2=>by
    have gG:st (bq rs) i≠[]:=fun z=>by rw [z] at h2; cases h2
    obtain ⟨t,j,e1,e2,e3⟩:=om gG 0
    rw [e3]
    have hj:=r9 e2
    have hoj:=Ao W (by omega) e2
    have GU:rs[j]?=some rs[j]:=fD (by omega)
    rw [bP GU] at hoj
    rw [F8 hm GU hoj]
    refine decide_eq_false fun e=>?_
    subst e
    have xE:(st (bq rs) i)[t.length]?=some j:=by rw [e1,sA (cA _),Nat.sub_self]; rfl
    have hd:=(rP W i (by omega) _ _ xE).2.2.1
    obtain ⟨⟨f,ps,h⟩,_⟩:=bI hm
    have h0:=Lc hb h
    unfold dp at hd
    rw [h0] at hd
    rw [e1,qd,← hd] at h2
    simp at h2
   cases r with
   | df f ps=>exact absurd rfl ho
   | qF=>show (uM rs 0 i && true)=false; rw [up (two hb hr (.inl rfl))]; rfl
   | fin=>show (uM rs 0 i && true)=false; rw [up (two hb hr (.inr rfl))]; rfl
   | call x f as=>show (uM rs 0 i && (_ && ib 0 i))=false; rw [eW,G3,G3]
   | _=>show (uM rs 0 i && ib 0 i)=false; rw [eW,G3]
theorem y6 (hb:dB (some []) rs=some []) {f0:Nat} (hm:cp rs=some f0):∀ k,f0 < k→k≤rs.length→(∀ i,f0 < i→i < k→∀ a,rs[i]?≠some (.give a))→(st (bq rs) k)[0]?=some f0
 | 0,h,_,_=>absurd h (Nat.not_lt_zero _)
 | k+1,h,hk,hg=>by
   obtain ⟨⟨f,ps,hf⟩,_⟩:=bI hm
   by_cases e:k=f0
   · subst e
     have bW:=bP hf
     rw [gL (by rw [bW]; rfl) (by rw [bW]; rfl),Lc hb hf]; rfl
   · have ih:=y6 hb hm k (by omega) (by omega) fun i h1 h2=>hg i h1 (by omega)
     have hr:rs[k]?=some rs[k]:=fD (by omega)
     have bW:=bP hr
     have h0:0 < (st (bq rs) k).length:=(cn.mp ih).1
     by_cases ho:(au rs[k]).op=true
     · have hc:(au rs[k]).cl=false:=by rcases uw ho with ⟨f,ps,e⟩ | ⟨a,e⟩ | ⟨a,e⟩ <;> rw [e] <;> rfl
       rw [gL (by rw [bW]; exact ho) (by rw [bW]; exact hc),oq h0]
       exact ih
     · have gx:=JM ho
       by_cases hc:(au rs[k]).cl=true
       · have M9:rs[k] = .fin:=by
          have V2:=hg k (by omega) (by omega)
          rw [hr] at V2
          revert hc V2
          cases rs[k] <;> intro hc V2 <;> first | rfl | exact absurd rfl (V2 _) | exact (c7 hc).elim
         have h2:=two hb hr (.inr M9)
         rw [d4 (by rw [bW]; exact hc) (by rw [bW]; exact gx),We,if_pos (by omega)]
         exact ih
       · rw [i6 (by rw [bW]; exact JM hc) (by rw [bW]; exact gx)]
         exact ih
theorem lH (W:rQ rs) (hb:dB (some []) rs=some []) {i:Nat} {a:j1} (hr:rs[i]?=some (.give a)):∃ d f ps,st (bq rs) i=[d]∧kA (bq rs) i=some d∧rs[d]?=some (.df f ps)∧d < i:=by
 have hi:=(cn.mp hr).1
 obtain ⟨d,h1,h2,h3⟩:=fP hb hr
 have xE:(st (bq rs) i)[0]?=some d:=by rw [h1]; rfl
 obtain ⟨hd,ho,PC,_⟩:=rP W i (by omega) _ _ xE
 have GF:rs[d]?=some rs[d]:=fD (by omega)
 rw [bP GF] at ho
 rcases uw ho with ⟨f,ps,e⟩ | ⟨x,e⟩ | ⟨x,e⟩
 · exact ⟨d,f,ps,h1,h3,by rw [GF,e],hd⟩
 · exfalso
   exact iu hb GF (by rw [e]; rfl) (by rw [e]; simp) (Cn.mp PC)
 · exfalso
   exact iu hb GF (by rw [e]; rfl) (by rw [e]; simp) (Cn.mp PC)
theorem y7 (hb:dB (some []) rs=some []) (W:rQ rs) {f0 i:Nat} (hm:cp rs=some f0) {a:j1} (hr:rs[i]?=some (.give a)):f0 < i:=by
 obtain ⟨d,f,ps,h1,_,h2,h3⟩:=lH W hb hr
 rcases Nat.lt_or_ge d f0 with z | z
 · exact absurd h2 ((bI hm).2 d z f ps)
 · omega
theorem y8 (W:rQ rs) (hb:dB (some []) rs=some []) {f0:Nat} (hm:cp rs=some f0):∃ g0 a,rs[g0]?=some (.give a)∧f0 < g0∧(∀ i,i < g0→∀ a,rs[i]?≠some (.give a))∧∀ i a,rs[i]?=some (.give a)→(kA (bq rs) i=some f0↔i=g0):=by
 obtain ⟨⟨f,ps,hf⟩,_⟩:=bI hm
 have YN:=(cn.mp hf).1
 have ex:∃ (i:Nat) (a:j1),rs[i]?=some (Rw.give a):=by
  refine Classical.byContradiction fun CA=>?_
  have h0:=y6 hb hm rs.length (by omega) (cA _) fun i _ _ a h=>CA ⟨i,a,h⟩
  obtain ⟨s,g1,g2,g3⟩:=kx hb rs.length (cA _)
  rw [OW,hb] at g1
  cases g1
  rw [Cn.mp g3.symm] at h0
  cases h0
 have least:∃ (g0:Nat) (a:j1),rs[g0]?=some (Rw.give a)∧∀ i,i < g0→∀ a,rs[i]?≠some (.give a):=by
  obtain ⟨n,a,h⟩:=ex
  induction n using Nat.strongRecOn generalizing a with
  | _ n ih =>
    by_cases q:∃ i,i < n∧∃ a,rs[i]?=some (Rw.give a)
    · obtain ⟨i,hi,a',h'⟩:=q
      exact ih i hi a' h'
    · exact ⟨n,a,h,fun i hi a' h'=>q ⟨i,hi,a',h'⟩⟩
 obtain ⟨g0,a,hg,hl⟩:=least
 have Ob:=y7 hb W hm hg
 have NC:=(cn.mp hg).1
 refine ⟨g0,a,hg,Ob,hl,fun i a' hi=>⟨fun hh=>?_,fun e=>?_⟩⟩
 · obtain ⟨d,f',zT,h1,h2,h3,h4⟩:=lH W hb hi
   rw [h2] at hh
   cases hh
   have hil:=(cn.mp hi).1
   rcases OT i g0 with z | z | z
   · exact absurd hi (hl i z a')
   · exact z
   · exfalso
     have xE:(st (bq rs) i)[0]?=some f0:=by rw [h1]; rfl
     have PC:=(rP W i (by omega) _ _ xE).2.2.2 (g0+1) (by omega) (by omega)
     obtain ⟨d',f'',acC,k1,_⟩:=lH W hb hg
     have bW:=bP hg
     unfold dp at PC
     rw [d4 (by rw [bW]; rfl) (by rw [bW]; rfl),k1] at PC
     simp at PC
 · subst e
   obtain ⟨d,f',zT,h1,h2,h3,h4⟩:=lH W hb hi
   have h0:=y6 hb hm i Ob (by omega) fun j _ hj=>hl j hj
   rw [h1] at h0
   cases h0
   exact h2
theorem BY (W:rQ rs) (hb:dB (some []) rs=some []) {f0 g0:Nat} (hm:cp rs=some f0) {r0:Rw} (hf:rs[f0]?=some r0) {a0:j1} (hg:rs[g0]?=some (.give a0)) (hh:∀ i a,rs[i]?=some (.give a)→(kA (bq rs) i=some f0↔i=g0)) :
  aT rs 0=((List.replicate rs.length Rw.skip).set f0 r0).set g0 (.give (.nu 0)):=by
 have Ob:f0≠g0:=fun e=>by
  subst e
  obtain ⟨⟨f,ps,h⟩,_⟩:=bI hm
  rw [hg] at h
  cases h
 have NC:=(cn.mp hg).1
 have YN:=(cn.mp hf).1
 refine Gy fun i=>?_
 by_cases hi:i < rs.length
 · have hr:rs[i]?=some rs[i]:=fD hi
   generalize rs[i]=r at hr
   rw [cm hr]
   have hB:=YM W hb hm hr
   by_cases e:i=f0
   · subst e
     rw [decide_eq_true rfl] at hB
     rw [bU hB,qg (fun z=>Ob z.symm),Aw (by rw [xt]; exact hi),← hf,hr]
   · rw [decide_eq_false e] at hB
     by_cases e2:i=g0
     · subst e2
       rw [hr] at hg
       cases hg
       have hhm:=(hh i a0 hr).mpr rfl
       rw [cY hB,ky hhm,YM W hb hm hf,decide_eq_true rfl,if_pos rfl,Aw (by rw [G2,xt]; exact hi)]
     · rw [qg (fun z=>e2 z.symm),qg (fun z=>e z.symm),Av,if_pos hi]
       by_cases V3:eQ r=true
       · obtain ⟨a,rfl⟩:∃ a,r = .give a:=by cases r <;> first | exact ⟨_,rfl⟩ | cases V3
         obtain ⟨d,f',zT,h1,h2,h3,h4⟩:=lH W hb hr
         rw [cY hB,ky h2,YM W hb hm h3,if_neg]
         rw [decide_eq_true_eq]
         intro z
         subst z
         exact e2 ((hh i a hr).mp h2)
       · rw [dX hB (JM V3)]
 · rw [xH (by rw [dh]; omega),xH (by simp; omega)]
end
theorem F9:∀ {ps:List Nat},ps.Nodup→∀ k,ib ((ps.map fun p=>(2:Int) ^ p).sum) k=decide (k∈ps)
 | [],_,k=>by simp [eW]
 | p :: ps,nd,k=>by
   rw [ow] at nd
   have ih:=F9 nd.2
   rw [g9,List.sum_cons,Int.add_comm,uv (by rw [ih]; exact decide_eq_false nd.1),Ae,ih,t9]
   by_cases e:k=p
   · subst e; simp
   · simp [e]
theorem JO {ys:List Str} {pl:Plan} (hp:∀ p∈pl,p.1∈ys∧p.2.length≤2∧p.2.Nodup∧∀ x∈p.2,x∈ys) {n:Nat} {rs:List Rw} (h:Pre ys pl n rs):∀ r∈rs,Ea ys r:=by
 induction h with
 | zero=>intro r hr; cases hr
 | @succ k rs f ps bE body o sk _ hk hb ho hs ih =>
   intro r hr
   rcases g_.mp hr with hr | hr
   · exact ih r hr
   · rcases List.mem_cons.mp hr with rfl | hr
     · obtain ⟨h1,h2,h3,h4⟩:=hp _ (j7 hk)
       exact ⟨h1,h2,h3,h4⟩
     · rcases g_.mp hr with hr | hr
       · exact IC (fun f ps h=>⟨(hp _ (List.mem_of_mem_drop h)).1,(hp _ (List.mem_of_mem_drop h)).2.1⟩) hb r hr
       · rcases g_.mp hr with hr | hr
         · rw [(U8.mp hr).2]; trivial
         · rcases cZ.mp hr with rfl | hr
           · exact ho
           · rcases hs with rfl | rfl
             · cases hr
             · simp only [cZ,fG,or_false] at hr; subst hr; trivial
end On
namespace VT
open PySem PySem.Spec PyProof.Rows L2 PySem.MeetsSeq PySem.SeqAt
noncomputable def F_ (z:Str):Value→Bool
 | .str y _=>y.cps.toList == z.cps.toList
 | _=>false
theorem str_beq (y z:Str):(y.cps.toList == z.cps.toList)=decide (y=z):=by
 obtain ⟨⟨a⟩⟩:=y
 obtain ⟨⟨b⟩⟩:=z
 rw [G1]
 simp
section
variable {X:Cx}
theorem F':Hw X "list.index" (fun x xs H Q=>∃ (p:Addr) (ys:List Str) (z:Str) (j:Nat),x = .ref p∧xs=[.str z]∧gy X.K H p (ys.map V.str)∧ys[j]?=some z∧(∀ i,i < j→ys[i]?≠some z)∧ys.length≤1000∧Q (.int (j:Int)) H):=by
 intro pins s σ H x xs v us Q I rx rs h
 obtain ⟨p,ys,z,j,rfl,rfl,hq,hj,CA,hl,q⟩:=h
 cases rx
 obtain ⟨u,rfl,t,rfl⟩:=vals1 rs
 obtain ⟨aP,rv,pl,_⟩:=I.list hq
 obtain ⟨⟨cls,dd,data,sl⟩,ho,hc,n,hd⟩:=pl.isList
 simp only at hc hd
 subst hc hd
 have hlen:aP.length=ys.length:=by rw [← rv.length,b_]
 have GP:j < ys.length:=(cn.mp hj).1
 have key:∀ (i:Nat) (hi:i < aP.toArray.size),F_ z aP.toArray[i]=decide (ys[i]?=some z):=by
  intro i hi
  have Dp:i < ys.length:=by rw [← hlen]; simpa using hi
  have e1:(ys.map V.str)[i]?=some (V.str ys[i]):=by rw [gw,fD Dp]; rfl
  obtain ⟨u,e2,r⟩:=rv.get e1
  obtain ⟨t',rfl⟩:=r
  have e3:aP.toArray[i]=Value.str ys[i] t':=by
   have:aP[i]?=some aP.toArray[i]:=by simp [fD (by simpa using hi:i < aP.length)]
   rw [this] at e2
   exact Option.some.inj e2
  rw [e3]
  show (ys[i].cps.toList == z.cps.toList)=_
  rw [str_beq,fD Dp]
  simp
 refine call_meets PySem.F.slot_list_index ⟨_,ho,rfl⟩ PySem.F.entry_list_index (PySem.F.args_list_index_2 _ _)
  (list_indexAt p aP.toArray n dd sl (.str z t) (F_ z) j (by simpa [hlen] using GP) (by omega) ?_ ?_) ⟨ho,fun y hy=>?_,⟨.int (j:Int),H,I.tok _,⟨_,rfl⟩,q⟩⟩
 · rw [key]; exact decide_eq_true hj
 · intro m hm gz
   rw [key]; exact decide_eq_false (CA m gz)
 · have W0:y∈aP:=by simpa using hy
   obtain ⟨i,hi⟩:=CH.mp W0
   have hil:=(cn.mp hi).1
   have e1:(ys.map V.str)[i]?=some (V.str (ys[i]'(by omega))):=by rw [gw,fD (by omega)]; rfl
   obtain ⟨u,e2,r⟩:=rv.get e1
   obtain ⟨t',rfl⟩:=r
   rw [hi] at e2
   cases e2
   exact (SeqRoads2.EqGives.str _ z t' t).at _ _
end
section
variable {X:Cx} {Z:Zc} {o e:Expr} {fo:FE} {apos bj:Pos}
noncomputable def Oc (fo:FE) (g:FA):FP:=fun ρ Q=>fo ρ fun x=>match x with
 | .lst ts=>g ρ fun y=>∃ (ys:List Str) (z:Str) (j:Nat),ts=ys.map .str∧y=[.str z]∧ys[j]?=some z∧(∀ i,i < j→ys[i]?≠some z)∧ys.length≤1000∧Q (.vw (.int (j:Int)))
 | _=>False
theorem pX {g:FA} (ho:VR X Z o fo) (he:HK X Z [e] g) (dC:attributeBase o "index" X.env (eval o X.env)=eval o X.env:=by rfl)
  (l_:((backTo bj (starEach [e] X.env)).all (fun x=>!x.1) && (backToKw bj (keywordEach [] X.env)).all (fun x=>x.1.isSome)
    && decide (([e]:List Expr).length+([]:List Keyword).length+(if ([]:List Keyword).isEmpty then 0 else 1) < 30))=true:=by rfl)
  (dD:(apos.endLine == bj.line)=true:=by rfl) (hs:starEach [e] X.env=(false,eval e X.env) :: starEach [] X.env:=by rfl) (d7:(backTo bj (starEach [] X.env)).any (·.1)=false:=by rfl) :
  VP X Z (.Call (.Attribute o "index" apos) [e] [] bj) (Oc fo g):=.mk fun tm =>
 PE.weak (rC UZ PySem.F.slot_list_index PySem.F.type_list_index F' (ho tm) (he tm) dC l_ dD hs d7) fun σ H Q ⟨ρ,O,q,I,hf,k⟩ =>
  ⟨ρ,O,_,I,hf,fun x hx v H1 s1 a1=>by
    split at hx
    · rename_i ts
      obtain ⟨p,vs,rfl,h1,h2⟩:=a1.lst
      refine ⟨.inl ⟨rfl,vs,h1⟩,ρ,O,_,I.same s1,hx,fun y hy w H2 s2 a2=>?_⟩
      obtain ⟨ys,z,j,rfl,rfl,hj,CA,hl,hq⟩:=hy
      obtain ⟨u,rfl,a3⟩:=cx a2
      have ev:=pb h2
      subst ev
      have eu:=a3.str
      subst eu
      exact ⟨p,ys,z,j,rfl,rfl,h1.imp (fun z=>Rd.same s2 z) id,hj,CA,hl,k _ hq _ H2 (s1.trans s2) ⟨(I.same s1).same s2,bG⟩⟩
    · exact hx.elim⟩
end
end VT
namespace fB
open PySem L2 VT Gen Nk K5 Lay On BS
noncomputable def top (i:Nat):Stmt:=PySem.Challenge.pw_slicewise_k51_all_and_none.main.body.getD i (.Pass ⟨0,0,0,0⟩)
noncomputable abbrev ij:Stmt:=top 45
noncomputable abbrev k8:Stmt:=top 46
noncomputable abbrev jw:Stmt:=top 47
noncomputable abbrev ik:Stmt:=top 48
noncomputable abbrev v7:Stmt:=top 49
noncomputable abbrev jx:Stmt:=top 50
noncomputable abbrev wj:Stmt:=top 51
noncomputable abbrev il:Stmt:=top 52
noncomputable abbrev gT:Stmt:=top 53
noncomputable abbrev Aq:Stmt:=top 54
noncomputable abbrev ux:Stmt:=top 55
noncomputable abbrev lJ:Stmt:=top 56
noncomputable abbrev lK:Stmt:=top 57
structure PD (mg:Str→Option Value):Prop where
 len:mg "len" = none
 enumerate:mg "enumerate" = none
 zip:mg "zip" = none
 list:mg "list" = none
 sum:mg "sum" = none
theorem cz {n:Nat} (h:n≤1000):n≤sizeLine:=Gen.small h
structure Good (rs:List Rw):Prop where
 w:rQ rs
 b:dB (some []) rs=some []
 n:rs.length≤60
noncomputable abbrev j6 (ps:List Nat):List T:=ps.map fun (p:Nat)=>T.int (p:Int)
structure Kept (rs:List Rw) (n:Nat) (ps:List Nat):Prop where
 s:ps.Pairwise (· < ·)
 l:∀ p∈ps,p < n
 a:∀ p r,p < n→rs[p]?=some r→PB r=false→p∈ps
noncomputable def uy (ts:List T) (q:Rt→Prop):Prop:=∃ rs:List Rw,ts=[.lst (rs.map ax)]∧Good rs∧∀ ps:List Nat,Kept rs rs.length ps→q (.fr (.lst (j6 ps)))
noncomputable def Ld (ts:List T) (q:Rt→Prop):Prop:=∃ (rs:List Rw) (c pt:Int),ts=[.lst (rs.map ax),.int c,.int pt]∧Good rs∧0≤c∧c < 1000000000∧0 < pt∧∀ S:Int,q (.vw (.int S))
noncomputable def Le (ts:List T) (q:Rt→Prop):Prop:=∃ (rs:List Rw) (f0 g0:Nat) (r0:Rw) (a0:j1),ts=[.lst (rs.map ax)]∧Good rs∧cp rs=some f0∧rs[f0]?=some r0∧rs[g0]?=some (.give a0)∧(∀ i,i < g0→∀ a,rs[i]?≠some (.give a)) ∧
 q (.fr (.lst ((((List.replicate rs.length Rw.skip).set f0 r0).set g0 (.give (.nu 0))).map ax)))
noncomputable def Ar (ts:List T) (q:Rt→Prop):Prop:=∃ (rs lf:List Rw) (S:Int),ts=[.lst (rs.map ax),.lst (lf.map ax),.int S]∧Good rs∧lf.length=rs.length∧∀ S':Int,(∀ p r,rs[p]?=some r→PB r=false→ib S p=true→lf[p]?=some r→ib S' p=true)→q (.vw (.int S'))
noncomputable def JP (ts:List T) (q:Rt→Prop):Prop:=∃ ns:List Int,ts=[.lst (ns.map .int)]∧ns.length≤63∧q (.vw (.bl true))
theorem iY (rs:List Rw):plainT (.lst (rs.map ax))=true:=by simp only [plainT]; exact d_ gd rs
theorem jE (rs:List Rw):dep (.lst (rs.map ax))≤100:=by have:=h_ (f:=ax) (n:=2) o6 rs; simp only [dep]; omega
theorem Lf {n k:Nat} (h:k < n):qk n (k:Int)=some k:=by
 unfold qk
 simp
 omega
theorem Od (ns:List Int):gA (ns.map T.int) (some 4) (some 24)=((ns.drop (min 4 ns.length)).take (min 24 ns.length - min 4 ns.length)).map T.int:=by
 have h:=fun (a:Nat)=>HT.gE a
 unfold gA
 rw [b_,← List.map_drop,← List.map_take]
 rw [show (4:Int)=((4:Nat):Int) from rfl,show (24:Int)=((24:Nat):Int) from rfl,HT.gE,HT.gE]
theorem lL:∀ n,dr 0 (List.replicate n Rw.skip)=some 0
 | 0=>rfl
 | n+1=>by rw [ot]; simp only [dr,au]; exact lL n
theorem Ga {ys:List Str} {pl:Plan} {k:Nat} {rs:List Rw} (h:Pre ys pl k rs) (hk:1≤k) (n:Nat):∃ i,cp (List.replicate n Rw.skip ++ rs)=some i:=by
 cases h with
 | zero=>omega
 | @succ k rs f ps bE body o sk _ _ _ _ _ =>
   cases e:cp (List.replicate n Rw.skip ++ (rs ++ (.df f ps :: (body ++ (List.replicate bE.length .fin ++ (.give o :: sk)))))) with
   | some i=>exact ⟨i,rfl⟩
   | none =>
     have hm:Rw.df f ps∈List.replicate n Rw.skip ++ (rs ++ (.df f ps :: (body ++ (List.replicate bE.length .fin ++ (.give o :: sk))))):=jW _ (jW _ iw)
     obtain ⟨j,hj⟩:=CH.mp hm
     exact absurd hj (mB e j f ps)
theorem jC {y:Str} (h:Dr.dy y=true):y.length≤8:=by
 unfold Dr.dy at h
 simp only [kB,decide_eq_true_eq] at h
 omega
theorem Gb (m:Nat):(List.replicate ((m:Nat):Int).toNat [(Rt.vw (T.tup [(Rt.vw (T.str "skip")).t])).t]).flatten=(List.replicate m Rw.skip).map ax:=by
 rw [lU,U_]
 induction m with
 | zero=>rfl
 | succ n ih=>rw [ot,CK,ih,ot]; rfl
theorem xl (m:Nat):dw (List.replicate m Rw.skip):=by
 have:=o7 (rs:=[]) m ⟨fun i i' f ps zT h=>by simp at h,fun i x f as h=>by simp at h⟩
 rw [xw] at this
 exact this
theorem ints_map:∀ ps:List Nat,intsOf (ps.map fun p=>T.int ((2:Int) ^ p))=some (ps.map fun p=>(2:Int) ^ p)
 | []=>rfl
 | p :: ps=>by rw [g9,intsOf,ints_map ps]; rfl
theorem As:∀ as bs:List Rw,jU (as.map ax) (bs.map ax)=(as.zip bs).map fun p=>T.tup [ax p.1,ax p.2]
 | [],_=>by simp [jU]
 | _ :: _,[]=>by simp [jU]
 | a :: as,b :: bs=>by
   have ih:=As as bs
   unfold jU at ih ⊢
   simp only [g9,Co,U9,ih]
theorem Oe (x:Int) (k:Nat):decide (x / 2 ^ ((k:Int)).toNat % 2=1)=ib x k:=by
 rw [lU,yE]
 cases ib x k <;> decide
theorem Kept.len {rs:List Rw} {n:Nat} {ps:List Nat} (h:Kept rs n ps):ps.length≤n:=by
 have key:∀ {ps:List Nat} {lo n:Nat},ps.Pairwise (· < ·)→(∀ p∈ps,p < n)→(∀ p∈ps,lo≤p)→ps.length≤n - lo:=by
  intro ps
  induction ps with
  | nil=>intro lo n _ _ _; simp
  | cons p ps ih =>
    intro lo n h1 h2 h3
    rw [List.pairwise_cons] at h1
    have:=ih (lo:=p+1) (n:=n) h1.2 (fun q hq=>h2 q (jc _ hq)) fun q hq=>h1.1 q hq
    have a:=h2 p iw
    have b:=h3 p iw
    simp only [Ax]
    omega
 have:=key h.s h.l (fun _ _=>qe _)
 omega
theorem Kept.nd {rs:List Rw} {n:Nat} {ps:List Nat} (h:Kept rs n ps):ps.Nodup:=h.s.imp fun z=>je z
theorem Kept.add {rs:List Rw} {n:Nat} {ps:List Nat} (h:Kept rs n ps):Kept rs (n+1) (ps ++ [n]) :=
 ⟨List.pairwise_append.mpr ⟨h.s,List.pairwise_singleton _ _,fun a ha b hb=>by rw [ou.mp hb]; exact h.l a ha⟩,
  fun p hp=>by
   rcases g_.mp hp with z | z
   · have:=h.l p z; omega
   · rw [ou.mp z]; omega,
  fun p r hp hr hs=>by
   by_cases e:p=n
   · rw [e]; simp
   · exact jR _ (h.a p r (by omega) hr hs)⟩
theorem Kept.skip {rs:List Rw} {n:Nat} {ps:List Nat} (h:Kept rs n ps) {r:Rw} (hr:rs[n]?=some r) (hs:PB r=true):Kept rs (n+1) ps :=
 ⟨h.s,fun p hp=>by have:=h.l p hp; omega,fun p r' hp cO GL=>by
   by_cases e:p=n
   · subst e
     rw [hr] at cO
     cases cO
     rw [hs] at GL
     cases GL
   · exact h.a p r' (by omega) cO GL⟩
noncomputable def IK (rs:List Rw) (i:Nat) (ρ:En):Prop:=∃ (b3 b4:Option (T×Bool)) (b:Bool) (ps:List Nat),ρ=[some (.lst (rs.map ax),false),some (.lst (j6 ps),true),some (.bl b,false),b3,b4]∧Kept rs i ps∧(st (bq rs) i≠[]→b=true)
section
variable {P:Program} {w:World} {K:PySem.W.Frag} {mg:Str→Option Value} {base:Heap}
noncomputable abbrev xm:List Str:=["_law_rows","_law_some","_law_inside","_law_place","_law_row"]
theorem lM:aN xm ["_law_rows"] (ak gT):=⟨rfl,rfl,rfl,by decide +kernel,rfl,by decide +kernel,by decide +kernel⟩
theorem uz {f:Addr} {fd:FuncData} (D:Df K mg "_law_kept_rows" gT ["_law_rows"] f fd) (M:PD mg):bY P w K mg base "_law_kept_rows" ["_law_rows"] 1 (bQ K 1 uy):=by
 refine D.i5 (jJ D.F lM rfl fun bO A outer s H E Ox hr ts q hG=>?_)
 have nd:=lM.nd
 have hu:=bA.fu hr
 have np:∀ {i:Nat},a9 ⟨H,[],Ox⟩ i:=n5
 refine ⟨_,(ag (c6 (i:=1) nd rfl (Or.inl rfl) (VP.vx (cg ai)) np)
   (ag (ba (i:=2) nd rfl (Or.inl rfl) (VP.vx hU) np)
   (ag (dM zk rfl (gJ (by rfl) M.enumerate (aj 0)) (f_ (n:=2) rfl (bc (aV (i:=3) nd rfl (Or.inl rfl) np) (bc (aV (i:=4) nd rfl (Or.inl rfl) np) dJ)))
     (ag (ba (i:=2) nd rfl (Or.inl rfl) (VP.vx (zE (VE.vp (aj 2)) (kc (kO hu (VP.vr (aS (aa 4) (VP.vr af))) (VP.vr ay))))) np)
     (ag (aY (VW.vc (du (dH (VE.vp (aj 2))) (cS (MW (VP.vr (aS (aa 4) (VP.vr af))) (VP.vr (bw (ae (VP.ve ay) (ae (VP.ve ay) (ae (VP.ve ay) ai)))))))))
       (ah (bp (fZ 1 xF xG bx br (ae (aj 3) ai))))
       aB)
     (ah (ba (i:=2) nd rfl (Or.inl rfl) (VP.vx (oG (VE.vp (aj 2)) (kc (DA hu (VP.vr (aS (aa 4) (VP.vr af))) (VP.vr ay))))) np)))))
   (ah (aD (iI 1 np)))))),fun _=>?_⟩
 obtain ⟨rs,rfl,G,hq⟩:=hG
 have hn:=G.n
 refine ⟨cz (by simp),?_⟩
 refine eB (IK rs) ⟨_,_,_,[],rfl,⟨List.Pairwise.nil,fun _ z=>(nomatch z),fun p r hp=>absurd hp (Nat.not_lt_zero _)⟩,fun z=>absurd rfl z⟩ ?_ ?_
 · rintro i r ρ cO ⟨b3,b4,b,ps,rfl,hK,xN⟩
   have hi:=(cn.mp cO).1
   have bW:=bP cO
   have hlen:=hK.len
   have app:j6 (ps ++ [i])=j6 ps ++ [T.int (i:Int)]:=by show (ps ++ [i]).map _=_; rw [xx]; rfl
   have ins:(j6 ps).length < sizeLine:=by rw [b_,sizeLine_eq]; omega
   have JQ:∀ (b':Bool),(st (bq rs) (i+1)≠[]→b'=true)→IK rs (i+1) [some (.lst (rs.map ax),false),some (.lst (j6 ps ++ [T.int (i:Int)]),true),some (.bl b',false),some (.int (i:Int),false),some (ax r,false)]:=fun b' h=>⟨_,_,b',ps ++ [i],by rw [app],hK.add,h⟩
   have Of:PB r=true→∀ (b':Bool),(st (bq rs) (i+1)≠[]→b'=true)→IK rs (i+1) [some (.lst (rs.map ax),false),some (.lst (j6 ps),true),some (.bl b',false),some (.int (i:Int),false),some (ax r,false)]:=fun hs b' h=>⟨_,_,b',ps,rfl,hK.skip cO hs,h⟩
   cases r with
   | df f qs =>
     cases b with
     | true=>exact ⟨rfl,rfl,_,aq (j:=0) rfl,cz (by simp),rfl,rfl,ins,_,aq (j:=0) rfl,JQ _ fun _=>rfl⟩
     | false=>exact ⟨rfl,rfl,_,aq (j:=0) rfl,_,aq (j:=0) rfl,cz (by simp),rfl,rfl,ins,_,aq (j:=0) rfl,JQ _ fun _=>rfl⟩
   | skip =>
     have hs:=Of rfl b (fun z=>xN (by rw [i6 (by rw [bW]; rfl) (by rw [bW]; rfl)] at z; exact z))
     cases b with
     | true=>exact ⟨rfl,rfl,_,aq (j:=0) rfl,cz (by simp),rfl,rfl,_,aq (j:=0) rfl,hs⟩
     | false=>exact ⟨rfl,rfl,_,aq (j:=0) rfl,hs⟩
   | give a =>
     obtain ⟨d,h1,_⟩:=fP G.b cO
     obtain rfl:=xN (by rw [h1]; simp)
     refine ⟨rfl,rfl,_,aq (j:=0) rfl,cz (by simp),rfl,rfl,ins,_,aq (j:=0) rfl,JQ _ fun z=>?_⟩
     exfalso
     rw [d4 (by rw [bW]; rfl) (by rw [bW]; rfl),h1] at z
     exact z rfl
   | qF =>
     obtain rfl:=xN (iu G.b cO rfl (by simp))
     exact ⟨rfl,rfl,_,aq (j:=0) rfl,cz (by simp),rfl,rfl,_,aq (j:=0) rfl,Of rfl _ fun _=>rfl⟩
   | fin =>
     obtain rfl:=xN (iu G.b cO rfl (by simp))
     exact ⟨rfl,rfl,_,aq (j:=0) rfl,cz (by simp),rfl,rfl,_,aq (j:=0) rfl,Of rfl _ fun _=>rfl⟩
   | _ =>
     obtain rfl:=xN (iu G.b cO rfl (by simp))
     exact ⟨rfl,rfl,_,aq (j:=0) rfl,cz (by simp),rfl,rfl,ins,_,aq (j:=0) rfl,JQ _ fun _=>rfl⟩
 · rintro ρ ⟨b3,b4,b,ps,rfl,hK,_⟩
   exact hq ps hK
noncomputable abbrev SE:List Str:=["_law_rows","_law_cell","_law_part","_law_total","_law_k","_law_place"]
theorem Gd:aN SE ["_law_rows","_law_cell","_law_part"] (ak Aq):=⟨rfl,rfl,rfl,by decide +kernel,rfl,by decide +kernel,by decide +kernel⟩
theorem Og {f:Addr} {fd:FuncData} (D:Df K mg "_law_set" Aq ["_law_rows","_law_cell","_law_part"] f fd) (M:PD mg) (e7:bY P w K mg base "_law_kept_rows" ["_law_rows"] 1 (bQ K 1 uy)):bY P w K mg base "_law_set" ["_law_rows","_law_cell","_law_part"] 2 (bQ K 3 Ld):=by
 obtain ⟨nG,lN,e8,e_,ff,fg⟩:=e7
 refine D.i5 (jJ D.F Gd rfl fun bO A outer s H E Ox hr ts q hG=>?_)
 have nd:=Gd.nd
 have hu:=bA.fu hr
 have np:∀ {i:Nat},a9 ⟨H,[],Ox⟩ i:=n5
 refine ⟨_,(ag (ba (i:=3) nd rfl (Or.inl rfl) (VP.vx af) np)
   (ag (dM zk rfl (gJ (by rfl) M.enumerate (VP.ve (aK fg (hr.mono (by decide)) (by rfl) e8 e_ ff (ae (aj 0) ai)))) (f_ (n:=2) rfl (bc (aV (i:=4) nd rfl (Or.inl rfl) np) (bc (aV (i:=5) nd rfl (Or.inl rfl) np) dJ)))
     (ah (aY (bB hu (VP.vr (a8 (VP.vr (a8 (VP.vr (aZ (VP.vr (iH (aa 1) (VP.vr (cj (VP.vr (iH (VP.vr af) (aa 4))) (VP.vr af))))) (VP.vr (cj (aa 4) (VP.vr af))))) (VP.vr af))) (aa 2))) (VP.vr af))
       (ah (ba (i:=3) nd rfl (Or.inl rfl) (VP.vx (cj (aa 3) (VP.vr (ye (VP.vr af) (aa 5))))) np))
       aB)))
   (ah (aD (VP.vx (VE.vp (aj 3))))))),fun _=>?_⟩
 obtain ⟨rs,c,pt,rfl,G,hc0,VF,hpt,hq⟩:=hG
 have hn:=G.n
 refine ⟨rfl,rs,rfl,G,fun ps hK=>?_⟩
 have jg:=hK.len
 refine eB (fun i ρ=>∃ b4 b5 S,ρ=[some (.lst (rs.map ax),false),some (.int c,false),some (.int pt,false),some (.int S,false),b4,b5]) ⟨_,_,_,rfl⟩ ?_ ?_
 · rintro i p ρ hp ⟨b4,b5,S,rfl⟩
   have hi:=(cn.mp hp).1
   have hpp:=hK.l p (j7 hp)
   refine ⟨rfl,rfl,.inl ⟨by decide,by decide⟩,.inl ⟨by omega,by omega⟩,⟨by show (0:Int) < (i:Int)+1; omega,by show (i:Int)+1 < 1073741824; omega⟩,by decide,hpt,cJ (fun _=>?_) (fun _=>⟨_,_,_,rfl⟩)⟩
   exact ⟨⟨by show (0:Int)≤(p:Int); omega,by show (p:Int)≤1000000; omega,by decide⟩,_,_,_,rfl⟩
 · rintro ρ ⟨b4,b5,S,rfl⟩
   exact hq S
noncomputable abbrev y9:List Str:=["_law_rows","_law_due","_law_first"]
theorem Au:aN y9 ["_law_rows"] (ak ux):=⟨rfl,rfl,rfl,by decide +kernel,rfl,by decide +kernel,by decide +kernel⟩
theorem y_:(y9 ++ (["_law_row"]:List Str)).Nodup:=by decide +kernel
theorem za:(y9 ++ (["_law_row"]:List Str)).Nodup:=by decide +kernel
theorem JR {f:Addr} {fd:FuncData} (D:Df K mg "_law_bare" ux ["_law_rows"] f fd) (M:PD mg):bY P w K mg base "_law_bare" ["_law_rows"] 1 (bQ K 1 Le):=by
 refine D.i5 (jJ D.F Au rfl fun bO A outer s H E Ox hr ts q hG=>?_)
 have nd:=Au.nd
 have np:∀ {i:Nat},a9 ⟨H,[],Ox⟩ i:=n5
 refine ⟨_,(ag (c6 (i:=1) nd rfl (Or.inl rfl) (VP.vx (jt (cg (ae (VP.ve (bw (ae (VP.ve ay) ai))) ai)) (VP.vr (aG aI aJ (by rfl) M.len jd (ar (aa 0) az))))) np)
   (ag (ba (i:=2) nd rfl (Or.inl rfl) (VP.vx (pX (VP.vr (dN (ts:=["_law_row"]) rfl (by rfl) (jo (aj 0)) (fun _ _ _ _ _ _=>(aV (i:=3) y_ rfl (Or.inl rfl) np)) (fun _ _ _ _ _ _=>di) (fun _ _ _ _ _ _=>(VP.ve (aS (aa 3) (VP.vr af)))))) (ar (VP.vr ay) az))) np)
   (ag (gX 1 (VP.ve (aS (aa 0) (aa 2))) (aa 2))
   (ag (gX 1 (VP.ve (bw (ae (VP.ve ay) (ae (VP.ve af) ai)))) (VP.vr (pX (VP.vr (dN (ts:=["_law_row"]) rfl (by rfl) (jo (aj 0)) (fun _ _ _ _ _ _=>(aV (i:=3) za rfl (Or.inl rfl) np)) (fun _ _ _ _ _ _=>di) (fun _ _ _ _ _ _=>(VP.ve (aS (aa 3) (VP.vr af)))))) (ar (VP.vr ay) az))))
   (ah (aD (iI 1 np))))))),fun _=>?_⟩
 obtain ⟨rs,f0,g0,r0,a0,rfl,G,hm,hf,hg,Ob,hq⟩:=hG
 have hn:=G.n
 have YN:=(cn.mp hf).1
 have NC:=(cn.mp hg).1
 have eS:(List.replicate ((rs.map ax).length:Int).toNat [(Rt.vw (T.tup [(Rt.vw (T.str "skip")).t])).t]).flatten=(List.replicate rs.length Rw.skip).map ax:=by
  rw [b_,lU,U_]
  generalize rs.length=n
  induction n with
  | zero=>rfl
  | succ n ih=>rw [ot,CK,ih,ot]; rfl
 refine ⟨cz (by simp),cz (by simp),by simp,by simp; omega,by simp; rw [sizeLine_eq]; omega,?_⟩
 rw [eS]
 refine ⟨rfl,by rw [b_]; exact cz (by omega),?_⟩
 have idx:∀ {z:Str} {k:Nat},(rs.map wd)[k]?=some z↔∃ r,rs[k]?=some r∧wd r=z:=fun {z k}=>by rw [gw,U2]
 refine gi (f:=ax) (u:=fun r=>T.str (wd r)) (fun r cO k hk=>?_) ?_
 · obtain ⟨l,el⟩:=jK r
   rw [el]
   exact ⟨_,aq (j:=0) rfl,hk⟩
 obtain ⟨⟨f,ps,M9⟩,hm2⟩:=bI hm
 refine ⟨rs.map wd,"def",f0,by rw [GA]; rfl,rfl,idx.mpr ⟨_,M9,rfl⟩,fun i hi e=>?_,by rw [b_]; omega,?_⟩
 · obtain ⟨r,h1,h2⟩:=idx.mp e
   cases r with
   | df f ps=>exact hm2 i hi f ps h1
   | _=>exact absurd h2 (by simp only [wd]; decide +kernel)
 refine ⟨_,mD hf,f0,?_,?_⟩
 · rw [b_,xt]; exact Lf YN
 refine ⟨cz (by simp),rfl,by rw [b_]; exact cz (by omega),?_⟩
 refine gi (f:=ax) (u:=fun r=>T.str (wd r)) (fun r cO k hk=>?_) ?_
 · obtain ⟨l,el⟩:=jK r
   rw [el]
   exact ⟨_,aq (j:=0) rfl,hk⟩
 refine ⟨rs.map wd,"give",g0,by rw [GA]; rfl,rfl,idx.mpr ⟨_,hg,rfl⟩,fun i hi e=>?_,by rw [b_]; omega,?_⟩
 · obtain ⟨r,h1,h2⟩:=idx.mp e
   cases r with
   | give a=>exact Ob i hi a h1
   | _=>exact absurd h2 (by simp only [wd]; decide +kernel)
 refine ⟨g0,?_,?_⟩
 · rw [G2,b_,xt]; exact Lf NC
 have e:(((List.replicate rs.length Rw.skip).map ax).set f0 (ax r0)).set g0 (ax (.give (.nu 0)))=(((List.replicate rs.length Rw.skip).set f0 r0).set g0 (.give (.nu 0))).map ax:=by rw [List.map_set,List.map_set]
 rw [← e] at hq
 exact hq
noncomputable abbrev Ge:List Str:=["_law_rows","_law_left","_law_some","_law_total","_law_place"]
theorem sx:aN Ge ["_law_rows","_law_left","_law_some"] (ak lJ):=⟨rfl,rfl,rfl,by decide +kernel,rfl,by decide +kernel,by decide +kernel⟩
theorem BZ {f:Addr} {fd:FuncData} (D:Df K mg "_law_stayed" lJ ["_law_rows","_law_left","_law_some"] f fd) (M:PD mg) (e7:bY P w K mg base "_law_kept_rows" ["_law_rows"] 1 (bQ K 1 uy)):bY P w K mg base "_law_stayed" ["_law_rows","_law_left","_law_some"] 2 (bQ K 3 Ar):=by
 obtain ⟨nG,lN,e8,e_,ff,fg⟩:=e7
 refine D.i5 (jJ D.F sx rfl fun bO A outer s H E Ox hr ts q hG=>?_)
 have nd:=sx.nd
 have hu:=bA.fu hr
 have np:∀ {i:Nat},a9 ⟨H,[],Ox⟩ i:=n5
 refine ⟨_,(ag (ba (i:=3) nd rfl (Or.inl rfl) (VP.vx af) np)
   (ag (dM zk rfl (jo (VP.ve (aK fg (hr.mono (by decide)) (by rfl) e8 e_ ff (ae (aj 0) ai)))) (aV (i:=4) nd rfl (Or.inl rfl) np)
     (ah (aY (VW.vc (du (bB hu (VP.vr (a8 (VP.vr (Dz (aa 2) (aa 4))) (VP.vr af))) (VP.vr af)) (cS (bB hu (VP.vr (aS (aa 1) (aa 4))) (VP.vr (aS (aa 0) (aa 4)))))))
       (ah (ba (i:=3) nd rfl (Or.inl rfl) (VP.vx (cj (aa 3) (VP.vr (ye (VP.vr af) (aa 4))))) np))
       aB)))
   (ah (aD (VP.vx (VE.vp (aj 3))))))),fun _=>?_⟩
 obtain ⟨rs,lf,S,rfl,G,hl,hq⟩:=hG
 have hn:=G.n
 refine ⟨rfl,rs,rfl,G,fun ps hK=>?_⟩
 have jg:=hK.len
 refine kT (fun i ρ=>∃ b4 S',ρ=[some (.lst (rs.map ax),false),some (.lst (lf.map ax),false),some (.int S,false),some (.int S',false),b4]∧(∀ p∈ps.drop i,ib S' p=false)∧∀ p∈ps.take i,∀ r,rs[p]?=some r→ib S p=true→lf[p]?=some r→ib S' p=true) ⟨_,0,rfl,fun p _=>eW p,fun p hp=>by simp at hp⟩ ?_ ?_
 · rintro i p ρ hp ⟨b4,S',rfl,CA,JS⟩
   have hi:=(cn.mp hp).1
   have hpp:=hK.l p (j7 hp)
   have cO:rs[p]?=some rs[p]:=fD hpp
   have Lw:lf[p]?=some lf[p]:=fD (by omega)
   have e2:ps.drop i=p :: ps.drop (i+1):=by rw [V9 hi]; congr 1; exact (cn.mp hp).2
   have hnp:ib S' p=false:=CA p (by rw [e2]; exact iw)
   have hnn:p∉ps.drop (i+1):=by
    have:=(List.drop_sublist i ps).nodup hK.nd
    rw [e2,ow] at this
    exact this.1
   have tk:∀ x,x∈ps.take (i+1)→x∈ps.take i∨x=p:=fun x hx=>by
    rw [List.take_succ,hp] at hx
    rcases g_.mp hx with z | z
    · exact .inl z
    · exact .inr (by simpa using z)
   have no:¬ (ib S p=true∧lf[p]?=rs[p]?)→∃ b4 YO,([some (.lst (rs.map ax),false),some (.lst (lf.map ax),false),some (.int S,false),some (.int S',false),some (.int (p:Int),false)]:En)=[some (.lst (rs.map ax),false),some (.lst (lf.map ax),false),some (.int S,false),some (.int YO,false),b4]∧(∀ p∈ps.drop (i+1),ib YO p=false)∧∀ p∈ps.take (i+1),∀ r,rs[p]?=some r→ib S p=true→lf[p]?=some r→ib YO p=true:=fun h=>⟨_,S',rfl,fun x hx=>CA x (by rw [e2]; exact jc _ hx),fun x hx r h1 h2 h3=>by
    rcases tk x hx with z | rfl
    · exact JS x z r h1 h2 h3
    · exact absurd ⟨h2,by rw [h1,h3]⟩ h⟩
   refine ⟨by show (0:Int)≤(p:Int); omega,by decide,?_⟩
   have Ct:=Oe S p
   refine cJ (fun hb=>?_) (fun hb=>no fun z=>hb (of_decide_eq_true (Ct.trans z.1)))
   obtain ⟨l1,YQ⟩:=jK lf[p]
   obtain ⟨l2,GQ⟩:=jK rs[p]
   have p1:=gd lf[p]
   have p2:=gd rs[p]
   have d1:=o6 lf[p]
   rw [YQ] at p1 d1
   rw [GQ] at p2
   refine ⟨_,(mD Lw).trans (congrArg some YQ),_,(mD cO).trans (congrArg some GQ),p1,p2,nI d1 (by decide),?_⟩
   refine nK (fun h1=>?_) (fun h1=>no fun z=>?_)
   · have sh:(1:Int) * 2 ^ ((p:Int)).toNat=2 ^ p:=by rw [lU,Int.one_mul]
     refine ⟨⟨by show (0:Int)≤(p:Int); omega,by show (p:Int)≤1000000; omega,by decide⟩,_,S'+1 * 2 ^ ((p:Int)).toNat,rfl,fun x hx=>?_,fun x hx r k1 k2 k3=>?_⟩
     · rw [sh,uv hnp,Ae,t9,CA x (by rw [e2]; exact jc _ hx),PY]
       exact decide_eq_false fun e=>hnn (e▸hx)
     · rw [sh,uv hnp,Ae,t9]
       rcases tk x hx with z | rfl
       · rw [JS x z r k1 k2 k3,Ln]
       · rw [decide_eq_true rfl,O6]
   · have e:lf[p]=rs[p]:=by have:=z.2; rw [Lw,cO] at this; exact Option.some.inj this
     refine h1 ?_
     show eqT (.tup (.str (wd lf[p]) :: l1)) (.tup (.str (wd rs[p]) :: l2))=true
     rw [← YQ,← GQ,e]
     exact dI _ (gd _)
 · rintro ρ ⟨b4,S',rfl,CA,JS⟩
   exact hq S' fun p r h1 h2 h3 h4=>JS p (by rw [OW]; exact hK.a p r (cn.mp h1).1 h1 h2) r h1 h3 h4
noncomputable abbrev Lg:List Str:=["_law_script","_law_head","_law_names_here","_law_rows","_law_places","_law_some","_law_left","_law_row","_law_other"]
theorem Gf:aN Lg ["_law_script"] (ak lK):=⟨rfl,rfl,rfl,by decide +kernel,rfl,by decide +kernel,by decide +kernel⟩
theorem B0:(Lg ++ (["_law_place"]:List Str)).Nodup:=by decide +kernel
theorem Oh {f:Addr} {fd:FuncData} (D:Df K mg "law" lK ["_law_script"] f fd) (M:PD mg) (B1:bY P w K mg base "_law_cell_at" ["_law_script","_law_k"] 1 (bQ K 2 bK.KP)) (JT:bY P w K mg base "_law_names" ["_law_cell","_law_many"] 1 (bQ K 2 bK.EG)) (B2:bY P w K mg base "_law_program" ["_law_cells","_law_names_here","_law_head"] 6 (bQ K 3 bK.E1)) (e7:bY P w K mg base "_law_kept_rows" ["_law_rows"] 1 (bQ K 1 uy)) (Oi:bY P w K mg base "_law_bare" ["_law_rows"] 1 (bQ K 1 Le)) (SF:bY P w K mg base "_law_set" ["_law_rows","_law_cell","_law_part"] 2 (bQ K 3 Ld)) (Gg:bY P w K mg base "_law_stayed" ["_law_rows","_law_left","_law_some"] 2 (bQ K 3 Ar)) (Oj:bY P w K mg base "only" ["program","rows"] 4 (bQ K 2 On.K4)) (uA:bY P w K mg base "program_of" ["rows"] 7 (bQ K 1 cP.Am)):d0 P w K mg base jk 8 f fd ["_law_script"] (bQ K 1 JP):=by
 obtain ⟨PF,Ol,fQ,fR,fS,fU⟩:=B1
 obtain ⟨V4,SG,JU,JV,JW,JX⟩:=JT
 obtain ⟨PH,Om,B3,B4,B5,B6⟩:=B2
 obtain ⟨nG,lN,e8,e_,ff,fg⟩:=e7
 obtain ⟨YR,V5,Oo,Oq,Ot,Ou⟩:=Oi
 obtain ⟨acx,YS,SH,SI,SJ,SK⟩:=SF
 obtain ⟨SM,PJ,Gh,Gi,Gj,Gk⟩:=Gg
 obtain ⟨YT,V6,pY,pZ,p3,p4⟩:=Oj
 obtain ⟨JY,GW,uB,uC,uD,uE⟩:=uA
 refine jJ D.F Gf rfl fun bO A outer s H E Ox hr ts q hG=>?_
 have nd:=Gf.nd
 have hu:=bA.fu hr
 have np:∀ {i:Nat},a9 ⟨H,[],Ox⟩ i:=n5
 refine ⟨_,(ag (ba (i:=1) nd rfl (Or.inl rfl) (VP.vx (a8 (VP.vr (aK fU (hr.mono (by decide)) (by rfl) fQ fR fS (ae (aj 0) (ae (VP.ve af) ai)))) (VP.vr (ke (VP.vr af) (VP.vr af))))) np)
   (ag (ba (i:=2) nd rfl (Or.inl rfl) (VP.vx (aK JX (hr.mono (by decide)) (by rfl) JU JV JW (ae (VP.ve (aK fU (hr.mono (by decide)) (by rfl) fQ fR fS (ae (aj 0) (ae (VP.ve af) ai)))) (ae (VP.ve (cj (VP.vr af) (VP.vr (a8 (VP.vr (aZ (aa 1) (VP.vr af))) (VP.vr af))))) ai)))) np)
   (ag (aY (bB hu (VP.vr (a8 (VP.vr (aK fU (hr.mono (by decide)) (by rfl) fQ fR fS (ae (aj 0) (ae (VP.ve af) ai)))) (VP.vr af))) (VP.vr af))
     (ag (ba (i:=3) nd rfl (Or.inl rfl) (VP.vx (jt (cg (ae (VP.ve (bw (ae (VP.ve ay) ai))) ai)) (VP.vr (a8 (VP.vr (aZ (VP.vr (aK fU (hr.mono (by decide)) (by rfl) fQ fR fS (ae (aj 0) (ae (VP.ve af) ai)))) (VP.vr af))) (VP.vr af))))) np)
     (ah (aD (VP.vx (kO hu (VP.vr (aK p4 (hr.mono (by decide)) (by rfl) pY pZ p3 (ae (VP.ve (hW iB kf (by rfl) M.list yj (ar (aa 3) az))) (ae (VP.ve af) ai)))) (aa 3))))))
     aB)
   (ag (ba (i:=3) nd rfl (Or.inl rfl) (VP.vx (aK B6 (hr.mono (by decide)) (by rfl) B3 B4 B5 (ae (VP.ve (fY (aa 0) (fH (VP.vr af)) (fH (VP.vr af)))) (ae (aj 2) (ae (aj 1) ai))))) np)
   (ag (ba (i:=4) nd rfl (Or.inl rfl) (VP.vx (aK fg (hr.mono (by decide)) (by rfl) e8 e_ ff (ae (aj 3) ai))) np)
   (ag (aY (VW.vc (jY (i4 hu (VP.vr (aK p4 (hr.mono (by decide)) (by rfl) pY pZ p3 (ae (VP.ve (hW iB kf (by rfl) M.list yj (ar (aa 3) az))) (ae (VP.ve (aG (qq rfl) A6 (by rfl) M.sum Rj (ar (VP.vr (dN (ts:=["_law_place"]) rfl (by rfl) (jo (aj 4)) (fun _ _ _ _ _ _=>(aV (i:=9) B0 rfl (Or.inl rfl) np)) (fun _ _ _ _ _ _=>di) (fun _ _ _ _ _ _=>(VP.ve (ye (VP.vr af) (aa 9)))))) az))) ai)))) (aa 3)) (iF (i4 hu (VP.vr (aK p4 (hr.mono (by decide)) (by rfl) pY pZ p3 (ae (aj 3) (ae (VP.ve af) ai)))) (VP.vr (aK Ou (hr.mono (by decide)) (by rfl) Oo Oq Ot (ae (aj 3) ai)))))))
     (ah (aD (VP.vx hU)))
     aB)
   (ag (ba (i:=5) nd rfl (Or.inl rfl) (VP.vx (aK SK (hr.mono (by decide)) (by rfl) SH SI SJ (ae (aj 3) (ae (VP.ve (a8 (VP.vr (aK fU (hr.mono (by decide)) (by rfl) fQ fR fS (ae (aj 0) (ae (VP.ve af) ai)))) (VP.vr (ke (VP.vr af) (VP.vr af))))) (ae (VP.ve (cj (VP.vr af) (VP.vr (a8 (VP.vr (aZ (VP.vr (aK fU (hr.mono (by decide)) (by rfl) fQ fR fS (ae (aj 0) (ae (VP.ve af) ai)))) (VP.vr af))) (VP.vr af))))) ai))))) np)
   (ag (ba (i:=6) nd rfl (Or.inl rfl) (VP.vx (aK p4 (hr.mono (by decide)) (by rfl) pY pZ p3 (ae (aj 3) (ae (aj 5) ai)))) np)
   (ag (aY (VW.vc (jY (i4 hu (VP.vr (aK uE (hr.mono (by decide)) (by rfl) uB uC uD (ae (aj 6) ai))) (aa 6)) (iF (i4 hu (VP.vr (aG aI aJ (by rfl) M.len jd (ar (aa 6) az))) (VP.vr (aG aI aJ (by rfl) M.len jd (ar (aa 3) az)))))))
     (ah (aD (VP.vx hU)))
     aB)
   (ag (dM zk rfl (DX (by rfl) M.zip (aj 6) (aj 3)) (f_ (n:=2) rfl (bc (aV (i:=7) nd rfl (Or.inl rfl) np) (bc (aV (i:=8) nd rfl (Or.inl rfl) np) dJ)))
     (ah (aY (VW.vc (du (i4 hu (aa 7) (aa 8)) (du (i4 hu (aa 7) (VP.vr (bw (ae (VP.ve ay) ai)))) (cS (i4 hu (aa 7) (VP.vr (bw (ae (VP.ve ay) (ae (VP.ve af) ai)))))))))
       (ah (aD (VP.vx hU)))
       aB)))
   (ah (aD (VP.vx (kO hu (VP.vr (aK p4 (hr.mono (by decide)) (by rfl) pY pZ p3 (ae (aj 6) (ae (VP.ve (aK Gk (hr.mono (by decide)) (by rfl) Gh Gi Gj (ae (aj 3) (ae (aj 6) (ae (aj 5) ai))))) ai)))) (aa 6))))))))))))))),fun _=>?main⟩
 case main =>
  obtain ⟨ns,rfl,h63,hq⟩:=hG
  refine ⟨rfl,ns,1,rfl,⟨by decide,by decide,by decide⟩,by decide +kernel,?_⟩
  generalize hh:ns.getD 1 0 % (10:Int) ^ (9:Int).toNat=h
  have h0:0≤h:=by rw [← hh]; exact kC _ (by decide)
  have h1:h < 1000000000:=by rw [← hh]; exact lT _ (by decide)
  obtain ⟨m0,Yk⟩:=nH (kC (h / 648) (show (3:Int)≠0 by decide))
  have hm0:m0 < 3:=by have:=lT (h / 648) (show (0:Int) < 3 by decide); omega
  refine ⟨rfl,ns,0,rfl,⟨by decide,by decide⟩,by decide,rfl,ns.getD 0 0,3+m0,?_,by omega,fun ys hN=>?_⟩
  · rw [Yk]; push_cast; rfl
  have Y:bK.Ys ys:=⟨by rw [hN.l]; omega,by rw [hN.l]; omega,fun y hy=>by have:=jC (hN.nm y hy); omega⟩
  refine ⟨rfl,ns,3,rfl,(by show (0:Int) < 9; decide),cJ (fun hb=>?_) (fun hb=>?_)⟩
  · obtain ⟨m,em⟩:=nH (kC (ns.getD 3 0 / 9) (show (7:Int)≠0 by decide))
    have hm7:m < 7:=by have:=lT (ns.getD 3 0 / 9) (show (0:Int) < 7 by decide); omega
    refine ⟨cz (by simp),cz (by simp),rfl,ns,3,rfl,⟨by decide,by decide⟩,(by show (0:Int) < 7; decide),?_⟩
    rw [em]
    refine ⟨by omega,by omega,by rw [sizeLine_eq]; simp; omega,?_⟩
    rw [Gb]
    have hp:=iY (List.replicate m Rw.skip)
    have hon:aT (List.replicate m Rw.skip) 0=List.replicate m Rw.skip:=xk (Em (lL m)) (rN m) (xl m) fun p r hr hs=>by
     rw [U8.mp (j7 hr) |>.2] at hs
     cases hs
    refine ⟨rfl,List.replicate m Rw.skip,0,rfl,Em (lL m),by simp; omega,mG (xl m),?_⟩
    rw [hon]
    refine ⟨hp,hp,jE _,?_⟩
    show q (.vw (.bl (eqT (.lst ((List.replicate m Rw.skip).map ax)) (.lst ((List.replicate m Rw.skip).map ax)))))
    rw [dI _ hp]
    exact hq
  refine ⟨rfl,(ns.drop (min 4 ns.length)).take (min 24 ns.length - min 4 ns.length),ys,h,?_,by rw [CM,PU]; omega,⟨h0,by omega⟩,Y,fun n pl rs hn hp1 Yg jg YU iC hlen=>?_⟩
  · rw [Od]; rfl
  have hl:rs.length≤58:=by rw [CM] at hlen; omega
  have N1:∀ p∈pl,p.1∈ys∧p.2.length≤2∧p.2.Nodup∧∀ x∈p.2,x∈ys:=fun p hp=>by
   obtain ⟨a,m,hm,e⟩:=YU p hp
   refine ⟨a,?_,?_,?_⟩
   · rw [e,CM]; omega
   · rw [e]; exact (List.take_sublist _ _).nodup hN.nd
   · intro x hx; rw [e] at hx; exact List.mem_of_mem_take hx
  have D:dw (List.replicate n Rw.skip ++ rs):=o7 _ (Ed hN.nd jg iC)
  have G:Good (List.replicate n Rw.skip ++ rs):=⟨Em (by rw [fz,lL]; exact Nj iC),by rw [gK,rN]; exact IF iC,by simp; omega⟩
  have u7:∀ r∈List.replicate n Rw.skip ++ rs,cP.pM (ax r):=fun r hr=>by
   rcases g_.mp hr with z | z
   · rw [(U8.mp z).2]; exact cP.lx (ys:=ys) hN.nm (r:=.skip) trivial
   · exact cP.lx hN.nm (JO N1 iC r z)
  have V3:cP.pM (ax (.give (.nu 0))):=cP.lx (ys:=ys) hN.nm (r:=.give (.nu 0)) ⟨by decide,by decide⟩
  have X6:cP.pM (ax .skip):=cP.lx (ys:=ys) hN.nm (r:=.skip) trivial
  obtain ⟨f0,SN⟩:=Ga iC hp1 n
  generalize List.replicate n Rw.skip ++ rs=gD at G D u7 SN ⊢
  have ZM:=G.n
  have hp:=iY gD
  have hx:=dI _ hp
  have Ov:=mG D
  have him:qu (gD.map ax)=true:=kW vG gD
  refine ⟨rfl,gD,rfl,G,fun ps hK=>?_⟩
  have jg:=hK.len
  have YV:aT gD ((ps.map fun p=>(2:Int) ^ p).sum)=gD:=xk G.w G.b D fun p r hr hs=>by rw [F9 hK.nd]; exact decide_eq_true (hK.a p r (cn.mp hr).1 hr hs)
  obtain ⟨g0,a0,hg0,Ob,Ow,SO⟩:=y8 G.w G.b SN
  obtain ⟨⟨f,Vm,hfd⟩,_⟩:=bI SN
  have YW:=BY G.w G.b SN hfd hg0 SO
  refine ⟨rfl,by rw [b_]; exact cz (by omega),?_⟩
  refine gi (f:=fun (p:Nat)=>T.int (p:Int)) (u:=fun (p:Nat)=>T.int ((2:Int) ^ p)) (fun p Pc k hk=>?_) ?_
  · have:=hK.l p Pc
    refine ⟨⟨by show (0:Int)≤(p:Int); omega,by show (p:Int)≤1000000; omega,by decide⟩,?_⟩
    rw [show ((1:Int) * 2 ^ ((p:Int)).toNat)=2 ^ p by rw [lU,Int.one_mul]]
    exact hk
  refine ⟨ps.map fun p=>(2:Int) ^ p,ints_map ps,rfl,gD,_,rfl,G.w,by omega,Ov,?_⟩
  rw [YV]
  refine ⟨hp,hp,jE gD,?_⟩
  refine gB (c:=!eqT (.lst (gD.map ax)) (.lst (gD.map ax))) (by rw [hx]; rfl) ?_
  refine ⟨rfl,gD,0,rfl,G.w,by omega,Ov,rfl,gD,f0,g0,_,a0,rfl,G,SN,hfd,hg0,Ow,?_⟩
  rw [← YW]
  have YX:=iY (aT gD 0)
  refine ⟨YX,YX,jE _,?_⟩
  refine gB (c:=!eqT (.lst ((aT gD 0).map ax)) (.lst ((aT gD 0).map ax))) (by rw [dI _ YX]; rfl) ?_
  have c0:0≤ns.getD 2 0 % (10:Int) ^ (9:Int).toNat:=kC _ (by decide)
  have c1:ns.getD 2 0 % (10:Int) ^ (9:Int).toNat < 1000000000:=lT _ (by decide)
  refine ⟨rfl,ns,2,rfl,⟨by decide,by decide,by decide⟩,by decide +kernel,rfl,ns,3,rfl,⟨by decide,by decide⟩,(by show (0:Int) < 3; decide),rfl,gD,_,_,rfl,G,c0,c1,(by have:=kC (ns.getD 3 0 / 9) (show (3:Int)≠0 by decide); omega),fun S=>?_⟩
  have QN:(aT gD S).length=gD.length:=dh gD S
  have hA:cP.Acc (aT gD S):=⟨by omega,fun r hr=>by
   obtain ⟨j,hj⟩:=CH.mp hr
   have GP:=(cn.mp hj).1
   have GU:gD[j]?=some gD[j]:=fD (by omega)
   rw [cm GU] at hj
   have Pf:=Option.some.inj hj
   rw [← Pf]
   rcases Ap gD S j gD[j] with z | z | z
   · rw [z]; exact u7 _ (Ll _)
   · rw [z]; exact X6
   · rw [z]; exact V3,F7 G.w G.b S,mW D S⟩
  have Pn:=iY (aT gD S)
  have hxs:=dI _ Pn
  refine ⟨rfl,gD,S,rfl,G.w,by omega,Ov,rfl,aT gD S,rfl,hA,Pn,Pn,jE _,?_⟩
  refine gB (c:=!eqT (.lst ((aT gD S).map ax)) (.lst ((aT gD S).map ax))) (by rw [hxs]; rfl) ?_
  refine gB (c:=!decide ((((aT gD S).map ax).length:Int)=((gD.map ax).length:Int))) (by rw [b_,b_,QN]; simp) ?_
  show oM (jU ((aT gD S).map ax) (gD.map ax)) _ _ _ _
  rw [As]
  refine kT (fun _ ρ=>∃ b7 b8,ρ=[some (.lst (ns.map .int),false),some (.int h,false),some (bK.eC ys,false),some (.lst (gD.map ax),false),some (.lst (j6 ps),false),some (.int S,false),some (.lst ((aT gD S).map ax),false),b7,b8]) ⟨_,_,rfl⟩ ?_ ?_
  · rintro i ⟨x,y⟩ ρ hi ⟨b7,b8,rfl⟩
    rw [List.getElem?_zip_eq_some] at hi
    obtain ⟨hi1,Pl⟩:=hi
    rw [cm Pl] at hi1
    have PK:=Option.some.inj hi1
    have fin:∀ t u:T,∃ b7 b8,([some (.lst (ns.map .int),false),some (.int h,false),some (bK.eC ys,false),some (.lst (gD.map ax),false),some (.lst (j6 ps),false),some (.int S,false),some (.lst ((aT gD S).map ax),false),some (t,false),some (u,false)]:En)=[some (.lst (ns.map .int),false),some (.int h,false),some (bK.eC ys,false),some (.lst (gD.map ax),false),some (.lst (j6 ps),false),some (.int S,false),some (.lst ((aT gD S).map ax),false),b7,b8]:=fun t u=>⟨_,_,rfl⟩
    obtain ⟨l2,GQ⟩:=jK y
    have p2:=gd y
    have d2:=o6 y
    have hy:=dI _ p2
    rcases Ap gD S i y with z | z | z
    · rw [z] at PK
      subst PK
      dsimp only
      rw [GQ] at p2 d2 hy ⊢
      refine ⟨rfl,rfl,p2,p2,nI d2 (by decide),?_⟩
      exact gB (c:=!eqT _ _) (by rw [hy]; rfl) (fin _ _)
    · rw [z] at PK
      subst PK
      dsimp only
      rw [GQ] at p2 d2 hy ⊢
      refine ⟨rfl,rfl,rfl,p2,by decide,?_⟩
      refine nK (fun _=>?_) (fun _=>fin _ _)
      refine ⟨cz (by simp),rfl,rfl,by decide,?_⟩
      exact fin _ _
    · rw [z] at PK
      subst PK
      dsimp only
      rw [GQ] at p2 d2 hy ⊢
      refine ⟨rfl,rfl,rfl,p2,by decide,?_⟩
      refine nK (fun _=>?_) (fun _=>fin _ _)
      refine ⟨cz (by simp),rfl,rfl,by decide,?_⟩
      refine ⟨cz (by simp),rfl,rfl,by decide,?_⟩
      exact fin _ _
  · rintro ρ ⟨b7,b8,rfl⟩
    refine ⟨rfl,gD,aT gD S,S,rfl,G,QN,fun S' BI=>?_⟩
    have hag:=y4 G.w G.b D (S:=S) (S':=S') BI
    refine ⟨rfl,aT gD S,S',rfl,JN G.w G.b S,by omega,mG (mW D S),?_⟩
    rw [hag]
    refine ⟨Pn,Pn,jE _,?_⟩
    show q (.vw (.bl (eqT (.lst ((aT gD S).map ax)) (.lst ((aT gD S).map ax)))))
    rw [hxs]
    exact hq
end
end fB
namespace aM
open PySem L2 VT
theorem bH {K:PySem.W.Frag} {h:Heap} {mg:Str→Option Value} (X:K.In h) (G:h.Ns mainGlobals mg) {x:Str} {st:Stmt} {ps:List Str} {f:Addr} {oc:Value} {od an:Option Addr} {GC:Array (Option Value)} {kV doc pm bO ct:Value}
  (a:PySem.W.nsIn K mainGlobals x=some (some (.ref f))) (l:K.lookup f=some ⟨oc,od,.func (PySem.W.fnOf x x (gF st) (cQ st) (ak st) .none kV doc pm an bO ct),GC⟩)
  (c:PySem.W.codeIn K bO x=true) (k:PySem.W.keepIn K (.ref f)=true)
  (hb:∀ (kV doc pm:Value) (an:Option Addr) (bO ct:Value) (us:List Value),us.length=ps.length→bindArgs (PySem.W.fnOf x x (gF st) (cQ st) (ak st) .none kV doc pm an bO ct) ⟨us,[]⟩=pure (ps.zip us)) :
  ∃ f fd,Df K mg x st ps f fd:=by
 have F:=x_ (st:=st) l c k
 exact ⟨f,_,F,rg X G a,F.binds hb⟩
theorem cw {C:List Value→Prop} (h:C []):∀ us:List Value,us.length=0→C us
 | [],_=>h
theorem bf {n:Nat} {C:List Value→Prop} (h:∀ a,∀ us:List Value,us.length=n→C (a :: us)):∀ us:List Value,us.length=n+1→C us
 | a :: us,e=>h a us (Nat.succ.inj e)
theorem YY {C:List Value→Prop} (h:∀ a,C [a]):∀ us:List Value,us.length=1→C us:=bf fun a=>cw (h a)
noncomputable abbrev pE:Program:=PySem.Challenge.pw_slicewise_k51_all_and_none
noncomputable def qE:Program:=PySem.W.view pE [1,3,4,5,6,7,9,10,11,12,13,14,15,16,17,18,19,20,21,22,23,25,26,27,28,29,30,31,32,33,34,35,36,38,40,41,42,43,45,46,47,48,49,50,51,52,53,54,55,56,57]
noncomputable def Gm:List Str:=["FORMS"]
noncomputable def Lh:List Addr:=[0,1,2,3,4,5,6,7,8,9,10,11,12,13,14,15,16,17,18,19,20,21,22,29,30,31,32,35,42,43,44,47,54,55,56,57,58,59,60,61,62,63,66,73,74,75,76,77,78,79,80,81,82,85,92,93,94,95,96,97,98,99,100,101,104,105,106,107,108,109,110,111,112,113,114,115,116,117,118,119,120,121,122,123,124,125,126,127,128,129,130,131,132,133,134,135,136,137,138,139,140,141,142,143,144,145,146,147,148,149,150,151,152,153,154,155,156,157,158,159,160,161,162,163,164,165,166,167,168,169,170,171,172,173,174,175,176,177,178,179,180,181,182,183,184,185,186,187,188,189,190,191,192,193,194,195,196,197,198,199,200,201,202,203,204,205,206,207,208,209,210,211,212,213,214,215,216,217,218,219,220,221,222,223,224,225,226,227,228,229,230,231,232,233,234,235,236,237,238,239,247,248,249,250,251,252,253,254,255,256,257,258,261,262,263,264,265,266,267,268,269,270,271,272,273,274,275,276,277,278,279,280,281,282,283,284,285,286,287,288,289,290,291,292,293,294,295,296,297,298,299,300,301,302,303,304,305,306,307,308,309,310,311,312,313,314,315,316,317,318,319,320,321,322,323,324,325,326,327,328,329,330,331,332,333,334,335,336,337,338,339,340,341,342,343,344,345,346,347,348,349,350,351,352,353,354,355,356,357,358,359,360,361,362,363,364,365,366,367]
noncomputable abbrev OV:=Option (Option Value)
noncomputable abbrev OO:=Option Obj
noncomputable abbrev N (K:PySem.W.Frag) (x:Str):=PySem.W.nsIn K mainGlobals x
noncomputable abbrev Lk (K:PySem.W.Frag) (a:Addr):=List.lookup a K
noncomputable abbrev R (a:Addr):OV:=some (some (.ref a))
noncomputable abbrev fo (x q:Str) (st:Stmt) (pm:Value) (c:Addr):OO:=some ⟨.type "function",none,.func (PySem.W.fnOf x q (gF st) (cQ st) (ak st) .none .none .none pm none (.ref c) .none),#[]⟩
noncomputable abbrev cI (K:PySem.W.Frag) (c:Value) (q:Str):=PySem.W.codeIn K c q
noncomputable abbrev kI (K:PySem.W.Frag) (f:Addr):=PySem.W.keepIn K (.ref f)
noncomputable abbrev fI (K:PySem.W.Frag) (c:Addr) (x:Str):=PySem.W.findIn K (.ref c) x
noncomputable abbrev XX:Type:=(((((((OV×(OV×OV))×(OV×(OV×OV)))×((OO×(OV×OO))×((OV×OO)×(OV×OV))))×(((OV×(OV×OV))×(OV×(OV×OV)))×((OV×(OV×OV))×((OV×OV)×(OV×OV)))))×((((OV×(OV×OV))×(OV×(OV×OV)))×((OO×(OO×OO))×((OO×OO)×(OO×OO))))×(((OO×(OO×OO))×(OO×(OO×OO)))×((OO×(OO×OV))×((OV×Bool)×(OO×Bool))))))×(((((Bool×(Bool×Bool))×(Bool×(OV×Bool)))×((Bool×(OV×OV))×((OV×OV)×(OV×OV))))×(((OV×(OV×OO))×(Bool×(Bool×OV)))×((OO×(Bool×Bool))×((OV×OO)×(Bool×Bool)))))×((((OV×(OO×Bool))×(Bool×(OV×OO)))×((Bool×(Bool×OV))×((OO×Bool)×(Bool×OV))))×(((OO×(Bool×Bool))×((OV×OO)×(Bool×Bool)))×((OV×(OO×Bool))×((Bool×OV)×(OO×Bool)))))))×((((((Bool×(OV×OO))×(Bool×(Bool×OV)))×((OO×(Bool×Bool))×((OV×OO)×(Bool×Bool))))×(((OV×(OO×Bool))×(Bool×(OV×OO)))×((Bool×(Bool×OV))×((OO×Bool)×(Bool×OV)))))×((((OO×(Bool×Bool))×(OV×(OO×Bool)))×((Bool×(OV×OO))×((Bool×Bool)×(OV×OO))))×(((Bool×(Bool×OV))×(OO×(Bool×Bool)))×((OV×(OO×Bool))×((Bool×OV)×(OO×Bool))))))×(((((Bool×(OV×OO))×(Bool×(Bool×OV)))×((OO×(Bool×Bool))×((OV×OO)×(Bool×Bool))))×(((OV×(OO×Bool))×(Bool×(OV×OO)))×((Bool×(Bool×OV))×((OO×Bool)×(Bool×OV)))))×((((OO×(Bool×Bool))×(OV×(OO×Bool)))×((Bool×(OV×OO))×((Bool×Bool)×(OV×OO))))×(((Bool×(Bool×OV))×((OO×Bool)×(Bool×OV)))×((OO×(Bool×Bool))×((OV×OO)×(Bool×Bool))))))))
noncomputable def FF (K:PySem.W.Frag):XX:=(((((((N K "H",(N K "LETTERS",N K "LONGEST_NAME")),(N K "MOST_PARTS",(N K "MOST_ROWS",N K "RECKONINGS"))),((Lk K 104,(N K "OPENERS",Lk K 175)),((N K "CLOSERS",Lk K 176),(N K "isinstance",N K "int")))),(((N K "bool",(N K "str",N K "len")),(N K "all",(N K "tuple",N K "set"))),((N K "zip",(N K "range",N K "sum")),((N K "list",N K "enumerate"),(N K "min",N K "is_name"))))),((((N K "are_parameters",(N K "is_operand",N K "is_reckoning")),(N K "is_key",(N K "are_operands",N K "FORMS"))),((Lk K 155,(Lk K 169,Lk K 168)),((Lk K 167,Lk K 166),(Lk K 165,Lk K 164)))),(((Lk K 163,(Lk K 162,Lk K 161)),(Lk K 160,(Lk K 159,Lk K 158))),((Lk K 157,(Lk K 156,N K "Layout")),((fI K 256 "__init__",PySem.W.isFn K (.ref 253)),(Lk K 253,cI K (.ref 252) "Layout.__init__")))))),(((((kI K 253,(PySem.W.plainGet K 256 Str.empty,PySem.W.hasDictIn K 256)),(PySem.W.plainOver K 256,(fI K 256 "__setattr__",PySem.W.makesIn K 256))),((kI K 256,(fI K 256 "program",fI K 256 "heads")),((fI K 256 "ends",fI K 256 "elses"),(fI K 256 "homes",fI K 256 "defs")))),(((fI K 256 "main",(N K "law",Lk K 367)),(cI K (.ref 366) "law",(kI K 367,N K "is_number"))),((Lk K 111,(cI K (.ref 110) "is_number",kI K 111)),((N K "is_name",Lk K 116),(cI K (.ref 115) "is_name",kI K 116))))),((((N K "is_operand",(Lk K 123,cI K (.ref 122) "is_operand")),(kI K 123,(N K "is_field",Lk K 130))),((cI K (.ref 129) "is_field",(kI K 130,N K "is_key")),((Lk K 137,cI K (.ref 136) "is_key"),(kI K 137,N K "is_reckoning")))),(((Lk K 144,(cI K (.ref 143) "is_reckoning",kI K 144)),((N K "are_operands",Lk K 149),(cI K (.ref 148) "are_operands",kI K 149))),((N K "are_parameters",(Lk K 154,cI K (.ref 153) "are_parameters")),((kI K 154,N K "is_row"),(Lk K 174,cI K (.ref 173) "is_row"))))))),((((((kI K 174,(N K "may_stand",Lk K 204)),(cI K (.ref 203) "may_stand",(kI K 204,N K "go_past"))),((Lk K 211,(cI K (.ref 210) "go_past",kI K 211)),((N K "check_rows",Lk K 190),(cI K (.ref 189) "check_rows",kI K 190)))),(((N K "check_blocks",(Lk K 197,cI K (.ref 196) "check_blocks")),(kI K 197,(N K "first_defs",Lk K 225))),((cI K (.ref 224) "first_defs",(kI K 225,N K "may_call")),((Lk K 232,cI K (.ref 231) "may_call"),(kI K 232,N K "check_calls"))))),((((Lk K 218,(cI K (.ref 217) "check_calls",kI K 218)),(N K "program_of",(Lk K 183,cI K (.ref 182) "program_of"))),((kI K 183,(N K "shape",Lk K 239)),((cI K (.ref 238) "shape",kI K 239),(N K "has",Lk K 21)))),(((cI K (.ref 20) "has",(kI K 21,N K "def_stays")),(Lk K 279,(cI K (.ref 278) "def_stays",kI K 279))),((N K "does_stay",(Lk K 272,cI K (.ref 271) "does_stay")),((kI K 272,N K "left_row"),(Lk K 286,cI K (.ref 285) "left_row")))))),(((((kI K 286,(N K "only",Lk K 265)),(cI K (.ref 264) "only",(kI K 265,N K "_law_cell_at"))),((Lk K 293,(cI K (.ref 292) "_law_cell_at",kI K 293)),((N K "_law_names",Lk K 298),(cI K (.ref 297) "_law_names",kI K 298)))),(((N K "_law_number",(Lk K 305,cI K (.ref 304) "_law_number")),(kI K 305,(N K "_law_operand",Lk K 312))),((cI K (.ref 311) "_law_operand",(kI K 312,N K "_law_key")),((Lk K 319,cI K (.ref 318) "_law_key"),(kI K 319,N K "_law_simple"))))),((((Lk K 324,(cI K (.ref 323) "_law_simple",kI K 324)),(N K "_law_put",(Lk K 331,cI K (.ref 330) "_law_put"))),((kI K 331,(N K "_law_program",Lk K 336)),((cI K (.ref 335) "_law_program",kI K 336),(N K "_law_kept_rows",Lk K 343)))),(((cI K (.ref 342) "_law_kept_rows",(kI K 343,N K "_law_set")),((Lk K 350,cI K (.ref 349) "_law_set"),(kI K 350,N K "_law_bare"))),((Lk K 355,(cI K (.ref 354) "_law_bare",kI K 355)),((N K "_law_stayed",Lk K 362),(cI K (.ref 361) "_law_stayed",kI K 362))))))))
noncomputable def VV (w:World):XX:=(((((((some (some (.int 1000000000000000000000000000000 310)),(some (some (.str Dr.bF 312)),some (some (.int 8 314)))),(some (some (.int 4 316)),(some (some (.int 60 416)),R 104))),((some ⟨.type "tuple",none,.seq #[.str "plus" 318,.str "minus" 319,.str "times" 320,.str "over" 321,.str "rest" 322,.str "less" 323,.str "same" 324] 0,#[]⟩,(R 175,some ⟨.type "tuple",none,.seq #[.str "def" 418,.str "if" 419,.str "while" 420] 0,#[]⟩)),((R 176,some ⟨.type "tuple",none,.seq #[.str "give" 422,.str "end" 423] 0,#[]⟩),(some none,some none)))),(((some none,(some none,some none)),(some none,(some none,some none))),((some none,(some none,some none)),((some none,some none),(some none,R 116))))),((((R 154,(R 123,R 144)),(R 137,(R 149,R 155))),((some ⟨.type "dict",none,.dict #[⟨PyData.keyHash w.params "def",.str "def" 379,.ref 156⟩,⟨PyData.keyHash w.params "give",.str "give" 380,.ref 157⟩,⟨PyData.keyHash w.params "put",.str "put" 381,.ref 158⟩,⟨PyData.keyHash w.params "do",.str "do" 382,.ref 159⟩,⟨PyData.keyHash w.params "new",.str "new" 383,.ref 160⟩,⟨PyData.keyHash w.params "get",.str "get" 384,.ref 161⟩,⟨PyData.keyHash w.params "set",.str "set" 385,.ref 162⟩,⟨PyData.keyHash w.params "call",.str "call" 386,.ref 163⟩,⟨PyData.keyHash w.params "fail",.str "fail" 387,.ref 164⟩,⟨PyData.keyHash w.params "if",.str "if" 388,.ref 165⟩,⟨PyData.keyHash w.params "else",.str "else" 389,.ref 166⟩,⟨PyData.keyHash w.params "while",.str "while" 390,.ref 167⟩,⟨PyData.keyHash w.params "end",.str "end" 391,.ref 168⟩,⟨PyData.keyHash w.params "skip",.str "skip" 392,.ref 169⟩] 14,#[]⟩,(some ⟨.type "tuple",none,.seq #[] 0,#[]⟩,some ⟨.type "tuple",none,.seq #[] 0,#[]⟩)),((some ⟨.type "tuple",none,.seq #[.ref 123] 0,#[]⟩,some ⟨.type "tuple",none,.seq #[] 0,#[]⟩),(some ⟨.type "tuple",none,.seq #[.ref 123] 0,#[]⟩,some ⟨.type "tuple",none,.seq #[.ref 116] 0,#[]⟩)))),(((some ⟨.type "tuple",none,.seq #[.ref 116,.ref 116,.ref 149] 0,#[]⟩,(some ⟨.type "tuple",none,.seq #[.ref 116,.ref 137,.ref 123] 0,#[]⟩,some ⟨.type "tuple",none,.seq #[.ref 116,.ref 116,.ref 137] 0,#[]⟩)),(some ⟨.type "tuple",none,.seq #[.ref 116] 0,#[]⟩,(some ⟨.type "tuple",none,.seq #[.ref 116,.ref 123,.ref 144,.ref 123] 0,#[]⟩,some ⟨.type "tuple",none,.seq #[.ref 116,.ref 123] 0,#[]⟩))),((some ⟨.type "tuple",none,.seq #[.ref 123] 0,#[]⟩,(some ⟨.type "tuple",none,.seq #[.ref 116,.ref 154] 0,#[]⟩,R 256)),((some (some (.ref 253)),true),(fo "__init__" "Layout.__init__" Lay.jz (.str "slicewise.layouts" 513) 252,true)))))),(((((true,(true,true)),(true,(some (some (.builtin "object.__setattr__")),true))),((true,(some none,some none)),((some none,some none),(some none,some none)))),(((some none,(R 367,fo "law" "law" fB.lK (.str "law_slicewise_k51_all_and_none" 590) 366)),(true,(true,R 111))),((fo "is_number" "is_number" cP.eZ (.str "slicewise.rows" 308) 110,(true,true)),((R 116,fo "is_name" "is_name" cP.ip (.str "slicewise.rows" 308) 115),(true,true))))),((((R 123,(fo "is_operand" "is_operand" cP.fJ (.str "slicewise.rows" 308) 122,true)),(true,(R 130,fo "is_field" "is_field" cP.iU (.str "slicewise.rows" 308) 129))),((true,(true,R 137)),((fo "is_key" "is_key" cP.lg (.str "slicewise.rows" 308) 136,true),(true,R 144)))),(((fo "is_reckoning" "is_reckoning" cP.cM (.str "slicewise.rows" 308) 143,(true,true)),((R 149,fo "are_operands" "are_operands" cP.cN (.str "slicewise.rows" 308) 148),(true,true))),((R 154,(fo "are_parameters" "are_parameters" cP.cX (.str "slicewise.rows" 308) 153,true)),((true,R 174),(fo "is_row" "is_row" cP.lq (.str "slicewise.rows" 308) 173,true))))))),((((((true,(R 204,fo "may_stand" "may_stand" cP.gR (.str "slicewise.programs" 414) 203)),(true,(true,R 211))),((fo "go_past" "go_past" cP.fO (.str "slicewise.programs" 414) 210,(true,true)),((R 190,fo "check_rows" "check_rows" cP.fK (.str "slicewise.programs" 414) 189),(true,true)))),(((R 197,(fo "check_blocks" "check_blocks" cP.dW (.str "slicewise.programs" 414) 196,true)),(true,(R 225,fo "first_defs" "first_defs" cP.ck (.str "slicewise.programs" 414) 224))),((true,(true,R 232)),((fo "may_call" "may_call" cP.iW (.str "slicewise.programs" 414) 231,true),(true,R 218))))),((((fo "check_calls" "check_calls" cP.eX (.str "slicewise.programs" 414) 217,(true,true)),(R 183,(fo "program_of" "program_of" cP.dU (.str "slicewise.programs" 414) 182,true))),((true,(R 239,fo "shape" "shape" Pp.jO (.str "slicewise.programs" 414) 238)),((true,true),(R 21,fo "has" "has" On.Af (.str "slicewise.bits" 187) 20)))),(((true,(true,R 279)),(fo "def_stays" "def_stays" On.gP (.str "slicewise.only" 551) 278,(true,true))),((R 272,(fo "does_stay" "does_stay" On.gO (.str "slicewise.only" 551) 271,true)),((true,R 286),(fo "left_row" "left_row" On.iT (.str "slicewise.only" 551) 285,true)))))),(((((true,(R 265,fo "only" "only" On.t_ (.str "slicewise.only" 551) 264)),(true,(true,R 293))),((fo "_law_cell_at" "_law_cell_at" bK.ij (.str "law_slicewise_k51_all_and_none" 590) 292,(true,true)),((R 298,fo "_law_names" "_law_names" bK.k8 (.str "law_slicewise_k51_all_and_none" 590) 297),(true,true)))),(((R 305,(fo "_law_number" "_law_number" bK.jw (.str "law_slicewise_k51_all_and_none" 590) 304,true)),(true,(R 312,fo "_law_operand" "_law_operand" bK.ik (.str "law_slicewise_k51_all_and_none" 590) 311))),((true,(true,R 319)),((fo "_law_key" "_law_key" bK.v7 (.str "law_slicewise_k51_all_and_none" 590) 318,true),(true,R 324))))),((((fo "_law_simple" "_law_simple" bK.jx (.str "law_slicewise_k51_all_and_none" 590) 323,(true,true)),(R 331,(fo "_law_put" "_law_put" bK.wj (.str "law_slicewise_k51_all_and_none" 590) 330,true))),((true,(R 336,fo "_law_program" "_law_program" bK.il (.str "law_slicewise_k51_all_and_none" 590) 335)),((true,true),(R 343,fo "_law_kept_rows" "_law_kept_rows" fB.gT (.str "law_slicewise_k51_all_and_none" 590) 342)))),(((true,(true,R 350)),((fo "_law_set" "_law_set" fB.Aq (.str "law_slicewise_k51_all_and_none" 590) 349,true),(true,R 355))),((fo "_law_bare" "_law_bare" fB.ux (.str "law_slicewise_k51_all_and_none" 590) 354,(true,true)),((R 362,fo "_law_stayed" "_law_stayed" fB.lJ (.str "law_slicewise_k51_all_and_none" 590) 361),(true,true))))))))
theorem B7 (w:World) (os:OsState):HD.whole pE qE Gm [] [] Lh FF (HD.m9 (w.withFollow "special-get-raises" false).params) (PySem.W.boot_heap (w.withFollow "special-get-raises" false).params) (w.withFollow "special-get-raises" false) 2887 os=some ((true,PySem.W.openGood qE Gm),VV (w.withFollow "special-get-raises" false)):=by
 rw [PySem.W.Fast.te9980987889924229644]
 kernel_rfl
theorem Gn (w:World) (os:OsState):HD.whole pE qE Gm [] [] Lh FF (HD.m9 (w.withFollow "special-get-raises" true).params) (PySem.W.boot_heap (w.withFollow "special-get-raises" true).params) (w.withFollow "special-get-raises" true) 2887 os=some ((true,PySem.W.openGood qE Gm),VV (w.withFollow "special-get-raises" true)):=by
 rw [PySem.W.Fast.te9980987889924229644]
 kernel_rfl
theorem YZ (w:World) (os:OsState):HD.whole pE qE Gm [] [] Lh FF (HD.m9 (w).params) (PySem.W.boot_heap (w).params) (w) 2887 os=some ((true,PySem.W.openGood qE Gm),VV (w)) :=
 PySem.W.byRow2 "special-get-raises" (P:=fun w=>∀ os,HD.whole pE qE Gm [] [] Lh FF (HD.m9 (w).params) (PySem.W.boot_heap (w).params) (w) 2887 os=some ((true,PySem.W.openGood qE Gm),VV (w))) B7 Gn w os
theorem Oy:PySem.Challenge.rw_slicewise_k51_all_and_none.wellSaid=true:=by kernel_rfl
noncomputable abbrev KE (w:World):PySem.W.Frag:=HD.Kf Lh (HD.tw pE 6454 w)
noncomputable abbrev dE:DefRec:=HD.Rp fB.lK
theorem hd:PySem.W.LeftO pE qE Gm (HD.Pj qE [] []) (fun s=>Lh.map s.heap.get?) (fun w=>Lh.map (HD.tw pE 6454 w)) 6454∧∀ w,FF (KE w)=VV w:=HD.head (p:=pE) (q:=qE) (loose:=Gm) (lv:=[]) (R:=[]) (as:=Lh) (N:=6454) (M:=2887) (F:=FF) (v:=VV) (by kernel_rfl) rfl (fun s=>by kernel_rfl) rfl YZ
theorem Oz {l:PySem.W.OpenLaw} {w:World} {K:PySem.W.Frag} {h:Heap} {mg:Str→Option Value} {fa:Addr} (X:K.In h) (G:h.Ns mainGlobals mg) (hfa:mg "law" = some (.ref fa)) (hF:FF K=VV w) :
  ∃ fd:FuncData,(∀ (s:Shared) (v:Value),BindsTo s fd ⟨[v],[]⟩ [("_law_script",v)])∧∀ base:Heap,K.In base→base.Ns mainGlobals mg→d0 l.prog w K mg base jk 8 fa fd ["_law_script"] (bQ K 1 fB.JP):=by
 simp only [FF,VV,Prod.mk.injEq] at hF
 obtain ⟨⟨⟨⟨⟨⟨⟨mi5,⟨mz6,mi7⟩⟩,⟨mi8,⟨mi9,Y0⟩⟩⟩,⟨⟨Y1,⟨SQ,SR⟩⟩,⟨⟨SS,SU⟩,⟨g7,zb⟩⟩⟩⟩,⟨⟨⟨uF,⟨Gp,jF⟩⟩,⟨Gq,⟨p5,OA⟩⟩⟩,⟨⟨zc,⟨p6,OB⟩⟩,⟨⟨uG,fL⟩,⟨OC,zd⟩⟩⟩⟩⟩,⟨⟨⟨⟨lQ,⟨qW,nV⟩⟩,⟨B8,⟨nW,Y2⟩⟩⟩,⟨⟨Y3,⟨JZ,J1⟩⟩,⟨⟨J_,Ka⟩,⟨OD,OE⟩⟩⟩⟩,⟨⟨⟨OF,⟨OG,OH⟩⟩,⟨OI,⟨OJ,OK⟩⟩⟩,⟨⟨OL,⟨OM,B9⟩⟩,⟨⟨B_,B'⟩,⟨Ca,Cb⟩⟩⟩⟩⟩⟩,⟨⟨⟨⟨⟨Cc,⟨Cd,Ce⟩⟩,⟨Cf,⟨Cg,Ci⟩⟩⟩,⟨⟨Cj,⟨mX,p7⟩⟩,⟨⟨qX,p8⟩,⟨p9,qY⟩⟩⟩⟩,⟨⟨⟨qZ,⟨SV,SW⟩⟩,⟨SX,⟨SY,Y4⟩⟩⟩,⟨⟨Y5,⟨Y6,Y7⟩⟩,⟨⟨Y8,Y9⟩,⟨Y_,Y'⟩⟩⟩⟩⟩,⟨⟨⟨⟨Za,⟨Zb,Zd⟩⟩,⟨Ze,⟨Zf,Zg⟩⟩⟩,⟨⟨Zh,⟨Zi,Zj⟩⟩,⟨⟨Zk,Zl⟩,⟨Zm,Zn⟩⟩⟩⟩,⟨⟨⟨Zo,⟨Zp,Zq⟩⟩,⟨⟨Zr,Zs⟩,⟨Zt,Zu⟩⟩⟩,⟨⟨Zv,⟨Zw,Zx⟩⟩,⟨⟨Zy,Zz⟩,⟨ZA,ZC⟩⟩⟩⟩⟩⟩⟩,⟨⟨⟨⟨⟨⟨ZD,⟨ZE,ZF⟩⟩,⟨ZG,⟨ZH,S0⟩⟩⟩,⟨⟨S3,⟨S4,S6⟩⟩,⟨⟨S7,S8⟩,⟨S9,S_⟩⟩⟩⟩,⟨⟨⟨Ta,⟨Tb,Tc⟩⟩,⟨Td,⟨Te,Tf⟩⟩⟩,⟨⟨Tg,⟨Th,Ti⟩⟩,⟨⟨Tj,Tn⟩,⟨To,Tp⟩⟩⟩⟩⟩,⟨⟨⟨⟨Tq,⟨Tr,Ts⟩⟩,⟨Tt,⟨Tu,Tv⟩⟩⟩,⟨⟨Tw,⟨Tx,Tz⟩⟩,⟨⟨TB,TC⟩,⟨TF,TH⟩⟩⟩⟩,⟨⟨⟨TJ,⟨TK,TL⟩⟩,⟨TM,⟨TN,TQ⟩⟩⟩,⟨⟨TR,⟨TU,TV⟩⟩,⟨⟨TX,TY⟩,⟨TZ,T1⟩⟩⟩⟩⟩⟩,⟨⟨⟨⟨⟨T2,⟨T3,T4⟩⟩,⟨T5,⟨T6,T7⟩⟩⟩,⟨⟨T8,⟨T9,T_⟩⟩,⟨⟨T',Ua⟩,⟨Ub,Uc⟩⟩⟩⟩,⟨⟨⟨Ud,⟨Ue,Ug⟩⟩,⟨Uh,⟨Ui,Uj⟩⟩⟩,⟨⟨Uk,⟨Ul,Um⟩⟩,⟨⟨Uo,Up⟩,⟨Uq,Ur⟩⟩⟩⟩⟩,⟨⟨⟨⟨Us,⟨Ut,Uu⟩⟩,⟨Uv,⟨Uw,Ux⟩⟩⟩,⟨⟨Uy,⟨Uz,UA⟩⟩,⟨⟨UB,UC⟩,⟨UD,UE⟩⟩⟩⟩,⟨⟨⟨UG,⟨UH,UI⟩⟩,⟨⟨UJ,UK⟩,⟨UL,UM⟩⟩⟩,⟨⟨UN,⟨UO,UP⟩⟩,⟨⟨UQ,UR⟩,⟨US,UT⟩⟩⟩⟩⟩⟩⟩⟩:=hF
 have e:=hfa.symm.trans (rg X G SV)
 cases e
 have aE:Lay.Sa K 256:=⟨⟨Cd,Ce,Cf,Cg⟩,mX,p7,qX,p8,p9,qY,qZ⟩
 have sy:=x_ (st:=Lay.jz) Ca Cb Cc
 have Ck:Dc K mg "Layout" "Layout.__init__" Lay.jz ["self","program"] 256 253 _:=⟨sy,rg X G B9,sy.binds (fun _ _ _ _ _ _=>(aM.bf fun _=>(aM.bf fun _=>(aM.cw rfl)))),⟨Ci,B_,B',Cj⟩⟩
 have M2:cP.V0 mg:=⟨⟨_,rg X G mi5⟩,⟨_,rg X G mz6⟩,⟨_,rg X G mi7⟩,(ix X G g7),(ix X G zb),(ix X G uF),(ix X G Gp),(ix X G jF),(ix X G Gq)⟩
 have M3:cP.N2 w K mg:=⟨M2,⟨_,rg X G mi8⟩,⟨104,rg X G Y0,fun H=>.inr ⟨_,_,_,Y1,rfl,rfl,Gen.small (by simp),.cons ⟨_,rfl⟩ (.cons ⟨_,rfl⟩ (.cons ⟨_,rfl⟩ (.cons ⟨_,rfl⟩ (.cons ⟨_,rfl⟩ (.cons ⟨_,rfl⟩ (.cons ⟨_,rfl⟩ (.nil)))))))⟩⟩,(ix X G g7),(ix X G zb),(ix X G uF),(ix X G Gp),(ix X G jF),(ix X G Gq),(ix X G p5),(ix X G OA),(ix X G zc)⟩
 have M4:cP.Mg4 w K mg:=⟨M3,⟨155,fun s=>match s with | .nm=>116 | .op=>123 | .key=>137 | .rk=>144 | .par=>154 | .ops=>149,(rg X G Y2),fun s=>match s with | .nm=>(rg X G zd) | .op=>(rg X G qW) | .key=>(rg X G B8) | .rk=>(rg X G nV) | .par=>(rg X G lQ) | .ops=>(rg X G nW),⟨_,_,Y3,(by first | rfl | decide),.cons ⟨rfl,⟨_,rfl⟩,.ref 156,rfl,fun _ _=>bu (vs:=[V.ref 116,V.ref 154]) (.inr ⟨_,_,_,OM,rfl,rfl,Gen.small (by simp),.cons rfl (.cons rfl (.nil))⟩) (aA.cons (by simp only [At]) (aA.cons (by simp only [At]) (aA.nil)))⟩ (.cons ⟨rfl,⟨_,rfl⟩,.ref 157,rfl,fun _ _=>bu (vs:=[V.ref 123]) (.inr ⟨_,_,_,OL,rfl,rfl,Gen.small (by simp),.cons rfl (.nil)⟩) (aA.cons (by simp only [At]) (aA.nil))⟩ (.cons ⟨rfl,⟨_,rfl⟩,.ref 158,rfl,fun _ _=>bu (vs:=[V.ref 116,V.ref 123]) (.inr ⟨_,_,_,OK,rfl,rfl,Gen.small (by simp),.cons rfl (.cons rfl (.nil))⟩) (aA.cons (by simp only [At]) (aA.cons (by simp only [At]) (aA.nil)))⟩ (.cons ⟨rfl,⟨_,rfl⟩,.ref 159,rfl,fun _ _=>bu (vs:=[V.ref 116,V.ref 123,V.ref 144,V.ref 123]) (.inr ⟨_,_,_,OJ,rfl,rfl,Gen.small (by simp),.cons rfl (.cons rfl (.cons rfl (.cons rfl (.nil))))⟩) (aA.cons (by simp only [At]) (aA.cons (by simp only [At]) (aA.cons (by simp only [At]) (aA.cons (by simp only [At]) (aA.nil)))))⟩ (.cons ⟨rfl,⟨_,rfl⟩,.ref 160,rfl,fun _ _=>bu (vs:=[V.ref 116]) (.inr ⟨_,_,_,OI,rfl,rfl,Gen.small (by simp),.cons rfl (.nil)⟩) (aA.cons (by simp only [At]) (aA.nil))⟩ (.cons ⟨rfl,⟨_,rfl⟩,.ref 161,rfl,fun _ _=>bu (vs:=[V.ref 116,V.ref 116,V.ref 137]) (.inr ⟨_,_,_,OH,rfl,rfl,Gen.small (by simp),.cons rfl (.cons rfl (.cons rfl (.nil)))⟩) (aA.cons (by simp only [At]) (aA.cons (by simp only [At]) (aA.cons (by simp only [At]) (aA.nil))))⟩ (.cons ⟨rfl,⟨_,rfl⟩,.ref 162,rfl,fun _ _=>bu (vs:=[V.ref 116,V.ref 137,V.ref 123]) (.inr ⟨_,_,_,OG,rfl,rfl,Gen.small (by simp),.cons rfl (.cons rfl (.cons rfl (.nil)))⟩) (aA.cons (by simp only [At]) (aA.cons (by simp only [At]) (aA.cons (by simp only [At]) (aA.nil))))⟩ (.cons ⟨rfl,⟨_,rfl⟩,.ref 163,rfl,fun _ _=>bu (vs:=[V.ref 116,V.ref 116,V.ref 149]) (.inr ⟨_,_,_,OF,rfl,rfl,Gen.small (by simp),.cons rfl (.cons rfl (.cons rfl (.nil)))⟩) (aA.cons (by simp only [At]) (aA.cons (by simp only [At]) (aA.cons (by simp only [At]) (aA.nil))))⟩ (.cons ⟨rfl,⟨_,rfl⟩,.ref 164,rfl,fun _ _=>bu (vs:=[V.ref 116]) (.inr ⟨_,_,_,OE,rfl,rfl,Gen.small (by simp),.cons rfl (.nil)⟩) (aA.cons (by simp only [At]) (aA.nil))⟩ (.cons ⟨rfl,⟨_,rfl⟩,.ref 165,rfl,fun _ _=>bu (vs:=[V.ref 123]) (.inr ⟨_,_,_,OD,rfl,rfl,Gen.small (by simp),.cons rfl (.nil)⟩) (aA.cons (by simp only [At]) (aA.nil))⟩ (.cons ⟨rfl,⟨_,rfl⟩,.ref 166,rfl,fun _ _=>bu (vs:=[]) (.inr ⟨_,_,_,Ka,rfl,rfl,Gen.small (by simp),.nil⟩) (aA.nil)⟩ (.cons ⟨rfl,⟨_,rfl⟩,.ref 167,rfl,fun _ _=>bu (vs:=[V.ref 123]) (.inr ⟨_,_,_,J_,rfl,rfl,Gen.small (by simp),.cons rfl (.nil)⟩) (aA.cons (by simp only [At]) (aA.nil))⟩ (.cons ⟨rfl,⟨_,rfl⟩,.ref 168,rfl,fun _ _=>bu (vs:=[]) (.inr ⟨_,_,_,J1,rfl,rfl,Gen.small (by simp),.nil⟩) (aA.nil)⟩ (.cons ⟨rfl,⟨_,rfl⟩,.ref 169,rfl,fun _ _=>bu (vs:=[]) (.inr ⟨_,_,_,JZ,rfl,rfl,Gen.small (by simp),.nil⟩) (aA.nil)⟩ (.nil)))))))))))))),by show ([("def" : Str),("give" : Str),("put" : Str),("do" : Str),("new" : Str),("get" : Str),("set" : Str),("call" : Str),("fail" : Str),("if" : Str),("else" : Str),("while" : Str),("end" : Str),("skip" : Str)]).Nodup; decide +kernel⟩⟩⟩
 have MP:cP.JH w K mg:=⟨⟨_,rg X G mi9⟩,⟨175,rg X G SQ,fun H=>.inr ⟨_,_,_,SR,rfl,rfl,Gen.small (by simp),.cons ⟨_,rfl⟩ (.cons ⟨_,rfl⟩ (.cons ⟨_,rfl⟩ (.nil)))⟩⟩,⟨176,rg X G SS,fun H=>.inr ⟨_,_,_,SU,rfl,rfl,Gen.small (by simp),.cons ⟨_,rfl⟩ (.cons ⟨_,rfl⟩ (.nil))⟩⟩,(ix X G uG),(ix X G jF),(ix X G fL)⟩
 have M5:Pp.Mg5 K mg:=⟨(ix X G jF),(ix X G p6),(ix X G fL),(ix X G g7),(ix X G zb),(ix X G uF),(ix X G p5),(ix X G uG),(ix X G zc),⟨176,rg X G SS,fun H=>.inr ⟨_,_,_,SU,rfl,rfl,Gen.small (by simp),.cons ⟨_,rfl⟩ (.cons ⟨_,rfl⟩ (.nil))⟩⟩,⟨175,rg X G SQ,fun H=>.inr ⟨_,_,_,SR,rfl,rfl,Gen.small (by simp),.cons ⟨_,rfl⟩ (.cons ⟨_,rfl⟩ (.cons ⟨_,rfl⟩ (.nil)))⟩⟩⟩
 have MF:Lay.MgF mg:=⟨(ix X G fL)⟩
 have MLy:Lay.R' mg:=⟨(ix X G jF),(ix X G OC)⟩
 have MO:On.Pr mg:=⟨(ix X G jF),(ix X G p6)⟩
 have MG:bK.Mg mg:=⟨(ix X G jF),(ix X G p6),(ix X G p5)⟩
 have ML:fB.PD mg:=⟨(ix X G jF),(ix X G fL),(ix X G zc),(ix X G uG),(ix X G OB)⟩
 obtain ⟨f0,fd0,D0⟩:=bH (x:="is_number") (st:=cP.eZ) (ps:=["thing"]) X G Y4 Y5 Y6 Y7 (fun _ _ _ _ _ _=>(aM.bf fun _=>(aM.cw rfl)))
 obtain ⟨f1,fd1,D1⟩:=bH (x:="is_name") (st:=cP.ip) (ps:=["thing"]) X G Y8 Y9 Y_ Y' (fun _ _ _ _ _ _=>(aM.bf fun _=>(aM.cw rfl)))
 obtain ⟨f2,fd2,D2⟩:=bH (x:="is_operand") (st:=cP.fJ) (ps:=["thing"]) X G Za Zb Zd Ze (fun _ _ _ _ _ _=>(aM.bf fun _=>(aM.cw rfl)))
 obtain ⟨f3,fd3,D3⟩:=bH (x:="is_field") (st:=cP.iU) (ps:=["thing"]) X G Zf Zg Zh Zi (fun _ _ _ _ _ _=>(aM.bf fun _=>(aM.cw rfl)))
 obtain ⟨f4,fd4,D4⟩:=bH (x:="is_key") (st:=cP.lg) (ps:=["thing"]) X G Zj Zk Zl Zm (fun _ _ _ _ _ _=>(aM.bf fun _=>(aM.cw rfl)))
 obtain ⟨f5,fd5,D5⟩:=bH (x:="is_reckoning") (st:=cP.cM) (ps:=["thing"]) X G Zn Zo Zp Zq (fun _ _ _ _ _ _=>(aM.bf fun _=>(aM.cw rfl)))
 obtain ⟨f6,fd6,D6⟩:=bH (x:="are_operands") (st:=cP.cN) (ps:=["thing"]) X G Zr Zs Zt Zu (fun _ _ _ _ _ _=>(aM.bf fun _=>(aM.cw rfl)))
 obtain ⟨f7,fd7,D7⟩:=bH (x:="are_parameters") (st:=cP.cX) (ps:=["thing"]) X G Zv Zw Zx Zy (fun _ _ _ _ _ _=>(aM.bf fun _=>(aM.cw rfl)))
 obtain ⟨f8,fd8,D8⟩:=bH (x:="is_row") (st:=cP.lq) (ps:=["row"]) X G Zz ZA ZC ZD (fun _ _ _ _ _ _=>(aM.bf fun _=>(aM.cw rfl)))
 obtain ⟨f9,fd9,D9⟩:=bH (x:="may_stand") (st:=cP.gR) (ps:=["opened","word"]) X G ZE ZF ZG ZH (fun _ _ _ _ _ _=>(aM.bf fun _=>(aM.bf fun _=>(aM.cw rfl))))
 obtain ⟨f10,acD,D10⟩:=bH (x:="go_past") (st:=cP.fO) (ps:=["opened","word"]) X G S0 S3 S4 S6 (fun _ _ _ _ _ _=>(aM.bf fun _=>(aM.bf fun _=>(aM.cw rfl))))
 obtain ⟨f11,acE,D11⟩:=bH (x:="check_rows") (st:=cP.fK) (ps:=["program"]) X G S7 S8 S9 S_ (fun _ _ _ _ _ _=>(aM.bf fun _=>(aM.cw rfl)))
 obtain ⟨f12,acF,D12⟩:=bH (x:="check_blocks") (st:=cP.dW) (ps:=["program"]) X G Ta Tb Tc Td (fun _ _ _ _ _ _=>(aM.bf fun _=>(aM.cw rfl)))
 obtain ⟨f13,acG,D13⟩:=bH (x:="first_defs") (st:=cP.ck) (ps:=["program"]) X G Te Tf Tg Th (fun _ _ _ _ _ _=>(aM.bf fun _=>(aM.cw rfl)))
 obtain ⟨f14,acH,D14⟩:=bH (x:="may_call") (st:=cP.iW) (ps:=["program","firsts","place"]) X G Ti Tj Tn To (fun _ _ _ _ _ _=>(aM.bf fun _=>(aM.bf fun _=>(aM.bf fun _=>(aM.cw rfl)))))
 obtain ⟨f15,acI,D15⟩:=bH (x:="check_calls") (st:=cP.eX) (ps:=["program"]) X G Tp Tq Tr Ts (fun _ _ _ _ _ _=>(aM.bf fun _=>(aM.cw rfl)))
 obtain ⟨f16,acJ,D16⟩:=bH (x:="program_of") (st:=cP.dU) (ps:=["rows"]) X G Tt Tu Tv Tw (fun _ _ _ _ _ _=>(aM.bf fun _=>(aM.cw rfl)))
 obtain ⟨f17,acK,D17⟩:=bH (x:="shape") (st:=Pp.jO) (ps:=["program"]) X G Tx Tz TB TC (fun _ _ _ _ _ _=>(aM.bf fun _=>(aM.cw rfl)))
 obtain ⟨f18,acL,D18⟩:=bH (x:="has") (st:=On.Af) (ps:=["rows","row"]) X G TF TH TJ TK (fun _ _ _ _ _ _=>(aM.bf fun _=>(aM.bf fun _=>(aM.cw rfl))))
 obtain ⟨f19,acM,D19⟩:=bH (x:="def_stays") (st:=On.gP) (ps:=["layout","rows","place"]) X G TL TM TN TQ (fun _ _ _ _ _ _=>(aM.bf fun _=>(aM.bf fun _=>(aM.bf fun _=>(aM.cw rfl)))))
 obtain ⟨f20,acN,D20⟩:=bH (x:="does_stay") (st:=On.gO) (ps:=["layout","rows","stays","place"]) X G TR TU TV TX (fun _ _ _ _ _ _=>(aM.bf fun _=>(aM.bf fun _=>(aM.bf fun _=>(aM.bf fun _=>(aM.cw rfl))))))
 obtain ⟨f21,acO,D21⟩:=bH (x:="left_row") (st:=On.iT) (ps:=["layout","stays","place"]) X G TY TZ T1 T2 (fun _ _ _ _ _ _=>(aM.bf fun _=>(aM.bf fun _=>(aM.bf fun _=>(aM.cw rfl)))))
 obtain ⟨f22,acP,D22⟩:=bH (x:="only") (st:=On.t_) (ps:=["program","rows"]) X G T3 T4 T5 T6 (fun _ _ _ _ _ _=>(aM.bf fun _=>(aM.bf fun _=>(aM.cw rfl))))
 obtain ⟨f23,acQ,D23⟩:=bH (x:="_law_cell_at") (st:=bK.ij) (ps:=["_law_script","_law_k"]) X G T7 T8 T9 T_ (fun _ _ _ _ _ _=>(aM.bf fun _=>(aM.bf fun _=>(aM.cw rfl))))
 obtain ⟨f24,acR,D24⟩:=bH (x:="_law_names") (st:=bK.k8) (ps:=["_law_cell","_law_many"]) X G T' Ua Ub Uc (fun _ _ _ _ _ _=>(aM.bf fun _=>(aM.bf fun _=>(aM.cw rfl))))
 obtain ⟨f25,acS,D25⟩:=bH (x:="_law_number") (st:=bK.jw) (ps:=["_law_cell"]) X G Ud Ue Ug Uh (fun _ _ _ _ _ _=>(aM.bf fun _=>(aM.cw rfl)))
 obtain ⟨f26,acT,D26⟩:=bH (x:="_law_operand") (st:=bK.ik) (ps:=["_law_cell","_law_names_here"]) X G Ui Uj Uk Ul (fun _ _ _ _ _ _=>(aM.bf fun _=>(aM.bf fun _=>(aM.cw rfl))))
 obtain ⟨f27,acU,D27⟩:=bH (x:="_law_key") (st:=bK.v7) (ps:=["_law_cell","_law_names_here"]) X G Um Uo Up Uq (fun _ _ _ _ _ _=>(aM.bf fun _=>(aM.bf fun _=>(aM.cw rfl))))
 obtain ⟨f28,acV,D28⟩:=bH (x:="_law_simple") (st:=bK.jx) (ps:=["_law_kind","_law_cell","_law_names_here","_law_there"]) X G Ur Us Ut Uu (fun _ _ _ _ _ _=>(aM.bf fun _=>(aM.bf fun _=>(aM.bf fun _=>(aM.bf fun _=>(aM.cw rfl))))))
 obtain ⟨f29,acW,D29⟩:=bH (x:="_law_put") (st:=bK.wj) (ps:=["_law_rows","_law_blocks","_law_cell","_law_names_here","_law_there"]) X G Uv Uw Ux Uy (fun _ _ _ _ _ _=>(aM.bf fun _=>(aM.bf fun _=>(aM.bf fun _=>(aM.bf fun _=>(aM.bf fun _=>(aM.cw rfl)))))))
 obtain ⟨f30,acX,D30⟩:=bH (x:="_law_program") (st:=bK.il) (ps:=["_law_cells","_law_names_here","_law_head"]) X G Uz UA UB UC (fun _ _ _ _ _ _=>(aM.bf fun _=>(aM.bf fun _=>(aM.bf fun _=>(aM.cw rfl)))))
 obtain ⟨f31,acY,D31⟩:=bH (x:="_law_kept_rows") (st:=fB.gT) (ps:=["_law_rows"]) X G UD UE UG UH (fun _ _ _ _ _ _=>(aM.bf fun _=>(aM.cw rfl)))
 obtain ⟨f32,acZ,D32⟩:=bH (x:="_law_set") (st:=fB.Aq) (ps:=["_law_rows","_law_cell","_law_part"]) X G UI UJ UK UL (fun _ _ _ _ _ _=>(aM.bf fun _=>(aM.bf fun _=>(aM.bf fun _=>(aM.cw rfl)))))
 obtain ⟨f33,ac0,D33⟩:=bH (x:="_law_bare") (st:=fB.ux) (ps:=["_law_rows"]) X G UM UN UO UP (fun _ _ _ _ _ _=>(aM.bf fun _=>(aM.cw rfl)))
 obtain ⟨f34,ac1,D34⟩:=bH (x:="_law_stayed") (st:=fB.lJ) (ps:=["_law_rows","_law_left","_law_some"]) X G UQ UR US UT (fun _ _ _ _ _ _=>(aM.bf fun _=>(aM.bf fun _=>(aM.bf fun _=>(aM.cw rfl)))))
 have F:=x_ (st:=fB.lK) SW SX SY
 have DL:Df K mg "law" fB.lK ["_law_script"] 367 _:=⟨F,hfa,F.binds (fun _ _ _ _ _ _=>YY fun _=>rfl)⟩
 refine ⟨PySem.W.fnOf "law" "law" (gF fB.lK) (cQ fB.lK) (ak fB.lK) .none (.none) (.none) (.str "law_slicewise_k51_all_and_none" 590) none (.ref 366) (.none),fun s v=>.of_eq rfl,fun base _ _=>?_⟩
 have xn:=cP.mw (P:=l.prog) (w:=w) (base:=base) D0 M2
 have jQ:=cP.JC (P:=l.prog) (w:=w) (base:=base) D1 M2
 have iZ:=cP.kn (P:=l.prog) (w:=w) (base:=base) D2 jQ xn
 have ze:=cP.wO (P:=l.prog) (w:=w) (base:=base) D3 M3 jQ
 have Gr:=cP.BK (P:=l.prog) (w:=w) (base:=base) D4 M3 ze iZ
 have p_:=cP.nR (P:=l.prog) (w:=w) (base:=base) D5 M3
 have jG:=cP.nS (P:=l.prog) (w:=w) (base:=base) D6 M3 iZ
 have mY:=cP.lp (P:=l.prog) (w:=w) (base:=base) D7 M3 jG jQ
 have Gs:=cP.BM (P:=l.prog) (w:=w) (base:=base) D8 M4 jQ iZ Gr p_ mY jG
 have xo:=cP.uh (P:=l.prog) (w:=w) (base:=base) D9 MP
 have Cm:=cP.yX (P:=l.prog) (w:=w) (base:=base) D10 MP
 have uH:=cP.qO (P:=l.prog) (w:=w) (base:=base) D11 MP Gs
 have qa:=cP.nU (P:=l.prog) (w:=w) (base:=base) D12 MP xo Cm
 have uI:=cP.g6 (P:=l.prog) (w:=w) (base:=base) D13 MP
 have zf:=cP.xa (P:=l.prog) (w:=w) (base:=base) D14 MP
 have q8:=cP.pP (P:=l.prog) (w:=w) (base:=base) D15 MP uI zf
 have uJ:=cP.qQ (P:=l.prog) (w:=w) (base:=base) D16 MP uH qa q8
 have Kb:=Pp.E7 (P:=l.prog) (w:=w) (base:=base) D17 M5
 have q9:=Lay.g6 (P:=l.prog) (w:=w) (base:=base) D13 MF
 have Gu:=Lay.BH (P:=l.prog) (w:=w) (base:=base) Ck MLy aE Kb q9
 have Li:=On.NS (P:=l.prog) (w:=w) (base:=base) D18 MO
 have xp:=On.ua (P:=l.prog) (w:=w) (base:=base) D19 MO aE Li
 have xq:=On.ub (P:=l.prog) (w:=w) (base:=base) D20 MO aE xp Li
 have zg:=On.wB (P:=l.prog) (w:=w) (base:=base) D21 MO aE
 have ON:=On.Jx (P:=l.prog) (w:=w) (base:=base) D22 MO Gu xq zg
 have qb:=bK.yA (P:=l.prog) (w:=w) (base:=base) D23 MG
 have uK:=bK.EO (P:=l.prog) (w:=w) (base:=base) D24 MG
 have q_:=bK.mw (P:=l.prog) (w:=w) (base:=base) D25 MG
 have dY:=bK.kn (P:=l.prog) (w:=w) (base:=base) D26 MG q_
 have zh:=bK.NH (P:=l.prog) (w:=w) (base:=base) D27 MG dY
 have ra:=bK.BB (P:=l.prog) (w:=w) (base:=base) D28 MG dY zh
 have zi:=bK.NJ (P:=l.prog) (w:=w) (base:=base) D29 MG dY ra
 have qc:=bK.yB (P:=l.prog) (w:=w) (base:=base) D30 MG zi dY
 have eU:=fB.uz (P:=l.prog) (w:=w) (base:=base) D31 ML
 have zj:=fB.Og (P:=l.prog) (w:=w) (base:=base) D32 ML eU
 have xr:=fB.JR (P:=l.prog) (w:=w) (base:=base) D33 ML
 have rb:=fB.BZ (P:=l.prog) (w:=w) (base:=base) D34 ML eU
 exact fB.Oh (P:=l.prog) (w:=w) (base:=base) DL ML qb uK qc eU xr zj rb ON uJ
theorem walk {l:PySem.W.OpenLaw} {q:Program} {loose:List Str} {XP:(Str→Option Value)→Heap→Prop} {d:DefRec} {K:World→PySem.W.Frag} (hn:l.most=some 63) (W6:d.params.defaults=[])
  (F:∀ (w:World) (mg:Str→Option Value) (fa:Addr) (h:Heap),(K w).In h→h.Ns mainGlobals mg→mg d.name=some (.ref fa) →
    ∃ fd:FuncData,(∀ (s:Shared) (u:Value),BindsTo s fd ⟨[u],[]⟩ [("_law_script",u)])∧∀ base:Heap,(K w).In base→base.Ns mainGlobals mg→d0 l.prog w (K w) mg base jk 8 fa fd ["_law_script"] (bQ (K w) 1 fB.JP)) :
  PySem.W.WalkO q loose XP (fun w h=>(K w).In h) l.row.toRowW d [] (fun f vs=>PySem.call f vs):=by
 refine Vi.u9 hn W6 fun w s₀ s₁ mg mb fa o pm cd doc a vs ns G Y ho hd j8 QL Me hints hlen hg=>?_
 obtain ⟨fd,hb,hF⟩:=F w mg fa _ Y G.T.g QL
 exact Dh (CX:=jk) (sp:=bQ (K w) 1 fB.JP) (k:=8) Y G.T.g G.T.b G.T.builtins G.T.nolimit hg Me hints (nI hlen (by decide)) ⟨rfl,by decide,by decide⟩ hF hb (fun H _ hS =>
  ⟨[.lst (ns.map .int)],[],[],fun _ r=>r = .vw (.bl true),OZ,fun _ z=>(nomatch z),fun _ z=>(nomatch z),gb rfl (aA.cons (by
     simp only [At]
     refine ⟨a,ns.map V.int,rfl,hS.imp (fun z=>⟨z,fun m=>nomatch m⟩) id,?_⟩
     clear hS
     clear hints hlen
     induction ns with
     | nil=>exact aA.nil
     | cons n ns ih=>exact aA.cons bG ih) aA.nil),⟨ns,rfl,hlen,rfl⟩,fun us r hr v H' _ z=>by
     subst hr
     have:=z.1
     simpa only [At] using this⟩) fun _ _ _ z=>z
end aM
open PySem PySem.W PyProof.Rows
set_option maxRecDepth 100000 in
set_option maxHeartbeats 0 in
theorem PySem.Challenge.cw_slicewise_k51_all_and_none_holds : PySem.Challenge.rw_slicewise_k51_all_and_none.Holds := by
 w_on
 refine PySem.W.holds_law aM.Oy fun Oy=>?_
 refine PySem.W.holds_openX (q:=aM.qE) (loose:=aM.Gm) (Xt:=HD.Pj aM.qE [] []) (XP:=PySem.W.XL aM.qE []) (d:=aM.dE) (kwd:=[]) (N:=6454) aM.hd.1 (fun s e=>PySem.W.xl_of s (Bool.and_eq_true_iff.mp e).1) PySem.W.XL.keeps (by kernel_rfl) (by kernel_rfl) (by kernel_rfl) (fun s e=>PySem.W.recFacts_of (Bool.and_eq_true_iff.mp e).2) (by kernel_rfl) Oy (by kernel_rfl) ⟨rfl,rfl,rfl,rfl,rfl,by decide +kernel⟩ ?hw ?hc
 (case hw=>w_witness2)
 exact HD.DY (aM.walk (l:=PySem.Challenge.rw_slicewise_k51_all_and_none) (K:=aM.KE) rfl rfl (fun w mg fa h KX G QL=>aM.Oz KX G QL (aM.hd.2 w)))
