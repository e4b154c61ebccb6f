import PyProof.Rows.All
import Wide.All
import OpenK.AllK
import Wide.FinOn
import Lean
import PyProof.EqAt
import PyProof.EqKinds
import PyProof.TupleCall
import PyProof.NeKinds
import PyProof.Rows.SumAny
import PyProof.StrBlockL
import PyProof.StrBlockI
import PyProof.FitsReplace
import PyProof.Rows.SeqMore
import PyProof.Rows.TupAdd
import PyProof.Draws
import PyProof.ZipIter
import OpenK.ZGo
import PyProof.ListNew
import PyProof.Rows.SortStr
import PyProof.Rows.SortWalk
import PyProof.IsRules
import KE.KDictLaws
import PyProof.DictWalks
import PyProof.WalkInts
import PyProof.DictItems
import PyProof.Rows.DictItemsRows
import KE.KPairComp
import PyProof.Rows.SetFrom
import PyProof.SetRoads
import PyProof.CollectIter
import PyProof.Rows.SortShellK
import PySem.Challenge.RW_slicewise_k12_straight_rows
set_option Elab.async false
set_option linter.all false
set_option maxRecDepth 100000
set_option maxHeartbeats 8000000
abbrev KFr:=PySem.W.Frag
abbrev ic (x:PySem.Str):Prop:=(x == ("__debug__":PySem.Str))=false
abbrev va (x:PySem.Str):Prop:=(x == ("__classdict__":PySem.Str))=false
abbrev bO:=@List.mem_append_right
abbrev cq:=@List.mem_append_left
abbrev cA:=@List.mem_append
abbrev c6:=@List.mem_cons_self
abbrev fG:=@List.getElem?_eq_some_iff
abbrev cU:=@List.length_map
abbrev eB:=@List.mem_cons_of_mem
abbrev fH:=@PySem.Heap.get?_push_of_some
abbrev eC:=@Bool.false_ne_true
abbrev cY:=@List.mem_cons
abbrev gk:=@PySem.W.mg_none_of
abbrev ik:=@List.mem_of_getElem?
abbrev dm:=@Nat.le_refl
abbrev gF:=@List.size_toArray
abbrev gK:=@List.not_mem_nil
abbrev i4:=@List.getElem?_map
abbrev fq:=@PySem.Heap.lt_size
abbrev qe:=@List.getElem?_eq_getElem
abbrev qh:=@List.getElem?_append_left
abbrev mx:=@List.filterMap_cons
abbrev uX:=@List.getElem?_append_right
abbrev kZ:=@List.mem_singleton
abbrev mZ:=@PySem.Heap.get?_push_size
abbrev jI:=@List.nodup_cons
abbrev i5:=@List.map_cons
abbrev my:=@Bool.and_eq_true
abbrev rf:=@List.getElem?_set_ne
abbrev qi:=@Int.emod_lt_of_pos
abbrev rg:=@Nat.lt_of_lt_of_le
abbrev jw:=@Nat.zero_le
abbrev j4:=@Nat.ne_of_lt
abbrev mz:=@PySem.W.mg_of
abbrev qf:=@Int.emod_nonneg
abbrev k0:=@Nat.le_trans
abbrev uY:=@List.length_append
abbrev Am:=@List.getElem?_set_self
abbrev BB:=@List.getElem?_replicate
abbrev An:=@List.length_replicate
abbrev rh:=@PySem.boot_len
abbrev vb:=@List.length_cons
abbrev xY:=@Int.toNat_natCast
abbrev Ao:=@List.replicate_succ
abbrev x8:=@List.nodup_append
abbrev DU:=@Int.eq_ofNat_of_zero_le
abbrev Ms:=@PySem.F.slot_tuple_iterator_next
abbrev vd:=@List.mem_map
abbrev DV:=@List.set_cons_succ
abbrev Mt:=@PySem.F.slot_list_append
abbrev Mu:=@PySem.F.type_list_append
abbrev IX:=@List.getElem?_eq_none
abbrev DW:=@Nat.lt_succ_self
abbrev Og:=@List.mem_or_eq_of_mem_set
abbrev Ap:=@List.map_map
abbrev DX:=@PySem.PassesOwn.never
abbrev Sw:=@PyProof.Rows.callWith_type1
abbrev IB:=@List.lookup_cons
abbrev DG:=@Nat.lt_irrefl
abbrev BC:=@Nat.ne_of_gt
abbrev DY:=@PySem.Heap.size_push
abbrev Mv:=@PySem.mem_of_lookup
abbrev IC:=@List.append_nil
abbrev ID:=@List.length_set
abbrev Sx:=@List.getLast?_eq_getElem?
abbrev Mw:=@List.set_cons_zero
abbrev Mx:=@List.zip_cons_cons
abbrev IE:=@List.mem_range
abbrev Sy:=@PySem.F.plainAttrs_list
abbrev My:=@List.flatten_cons
abbrev IF:=@List.any_cons
abbrev MC:=@List.cons_append
abbrev Tb:=@Classical.byContradiction
abbrev Sz:=@Array.length_toList
abbrev Oh:=@List.length_take
abbrev Oi:=@List.all_eq_true
abbrev Oj:=@List.getElem_mem
abbrev MD:=@List.nodup_nil
abbrev Xv:=@PySem.F.args_tuple_iterator_next_1
abbrev Tc:=@Option.map_eq_some_iff
abbrev Xw:=@PySem.F.entry_tuple_iterator_next
abbrev Ol:=@PySem.W.kia_one
abbrev Om:=@List.length_nil
abbrev Td:=@PySem.F.slot_dict_get
abbrev Oo:=@List.length_zip
abbrev Oq:=@List.map_append
abbrev SA:=@Nat.lt_succ_of_lt
abbrev SD:=@List.ext_getElem?
abbrev Te:=@List.length_dropLast
abbrev ME:=@List.map_nil
abbrev MH:=@Nat.min_self
abbrev Xx:=@List.getElem?_range
abbrev YD:=@PyProof.Rows.slot_tuple_getitem
abbrev Xy:=@List.length_eq_zero_iff
abbrev Xz:=@PySem.F.plainAttrs_dict
abbrev Tf:=@PySem.Calls.spliced_cons
abbrev SE:=@List.nil_append
abbrev SF:=@List.find?_cons
abbrev XA:=@PySem.Calls.callWith_builtin
abbrev XB:=@List.zipWith_cons_cons
abbrev Tg:=@List.getElem?_set
abbrev Th:=@List.length_range
abbrev YE:=@List.mem_iff_getElem?
abbrev XC:=@Bool.beq_eq_decide_eq
abbrev XD:=@List.getElem?_mapIdx
abbrev YF:=@List.getD_eq_getElem?_getD
abbrev Ot:=@Nat.le_succ
abbrev XE:=@PySem.Heap.SameBut.update
abbrev XF:=@List.length_zipWith
abbrev XG:=@List.map_congr_left
abbrev XH:=@List.replicate_zero
abbrev Ti:=@Option.map_some
abbrev YG:=@List.drop_eq_getElem_cons
abbrev XI:=@PySem.W.callWith_K
abbrev YH:=@PySem.F.args_tuple_add_2
abbrev XJ:=@Nat.lt_of_le_of_lt
abbrev XM:=@PySem.Obj.data_mapFields
abbrev YI:=@PySem.F.entry_tuple_add
abbrev YJ:=@List.filter_cons_of_pos
abbrev YK:=@List.getElem?_cons_zero
abbrev YL:=@PySem.F.args_dict_get_3
abbrev XN:=@List.append_assoc
abbrev YM:=@PySem.F.slot_tuple_add
abbrev YN:=@PySem.F.entry_dict_get
abbrev Tj:=@Bool.true_and
abbrev XO:=@List.length_drop
namespace L2
open PySem PySem.Spec PyProof.Rows
abbrev Key:=Sum Int Str
def rj:Key→Value→Bool
 | .inl k,v=>Value.isInt k v
 | .inr x,v=>Value.isStrOf x v
def YO (w:World):Key→Int
 | .inl k=>hashInt k
 | .inr x=>hashStr w x
theorem ck:∀ {k:Key} {v:Value},rj k v=true→(∃ i t,k=Sum.inl i∧v=Value.int i t)∨(∃ x t,k=Sum.inr x∧v=Value.str x t)
 | .inl i,v,h=>by
   obtain ⟨t,e⟩:=Value.isInt_shape (k:=i) (v:=v) h
   exact .inl ⟨i,t,rfl,e⟩
 | .inr x,v,h=>by
   obtain ⟨t,e⟩:=Value.isStrOf_shape (x:=x) (v:=v) h
   exact .inr ⟨x,t,rfl,e⟩
theorem BD (i:Int) (t:Tok):rj (.inl i) (.int i t)=true:=by simp [rj,Value.isInt]
theorem BE (x:Str) (t:Tok):rj (.inr x) (.str x t)=true:=by simp [rj,Value.isStrOf]
theorem Ou (a b:Int):decide ((Sum.inl a:Key)=Sum.inl b)=(a == b):=by
 by_cases e:a=b
 · subst e; simp
 · have h:¬ (Sum.inl a:Key)=Sum.inl b:=fun q=>e (Sum.inl.inj q)
   rw [decide_eq_false h]
   exact (beq_eq_false_iff_ne.mpr e).symm
theorem Ov (a b:Str):decide ((Sum.inr a:Key)=Sum.inr b)=decide (a=b):=by
 by_cases e:a=b
 · subst e; simp
 · have h:¬ (Sum.inr a:Key)=Sum.inr b:=fun q=>e (Sum.inr.inj q)
   rw [decide_eq_false h,decide_eq_false e]
theorem Ow (a:Int) (b:Str):decide ((Sum.inl a:Key)=Sum.inr b)=false:=decide_eq_false (fun q=>nomatch q)
theorem Oy (a:Str) (b:Int):decide ((Sum.inr a:Key)=Sum.inl b)=false:=decide_eq_false (fun q=>nomatch q)
def bG (prog:Program) (w:World):PySem.KeyKind prog w Key where
 is:=rj
 hash:=YO w
 inj:=fun v a b ha hb=>by
  rcases ck ha with ⟨i,t,rfl,rfl⟩ | ⟨x,t,rfl,rfl⟩
  · rcases ck hb with ⟨j,u,rfl,e⟩ | ⟨y,u,rfl,e⟩
    · injection e with e1 _; rw [e1]
    · exact nomatch e
  · rcases ck hb with ⟨j,u,rfl,e⟩ | ⟨y,u,rfl,e⟩
    · exact nomatch e
    · injection e with e1 _; rw [e1]
 byValue:=fun k v h=>by
  rcases ck h with ⟨i,t,rfl,rfl⟩ | ⟨x,t,rfl,rfl⟩ <;> rfl
 pyHash:=fun hv h=>by
  rcases ck hv with ⟨i,t,rfl,rfl⟩ | ⟨x,t,rfl,rfl⟩
  · exact wpAny_pyHash_int h
  · exact wpAny_pyHash_str h
 eqBool:=fun hu hv h=>by
  rcases ck hu with ⟨i,t,rfl,rfl⟩ | ⟨x,t,rfl,rfl⟩
  · rcases ck hv with ⟨j,u,rfl,rfl⟩ | ⟨y,u,rfl,rfl⟩
    · rw [Ou] at h; exact wpAny_eqBool_int h
    · rw [Ow] at h; exact SeqAt.EqAt.int_str i t y u _ _ _ _ h
  · rcases ck hv with ⟨j,u,rfl,rfl⟩ | ⟨y,u,rfl,rfl⟩
    · rw [Oy] at h; exact SeqAt.EqAt.str_int x t j u _ _ _ _ h
    · rw [Ov] at h; exact wpAny_eqBool_str h
 «strs»:=fun k x t v h=>by
  rcases ck h with ⟨i,u,rfl,e⟩ | ⟨y,u,rfl,e⟩
  · exact nomatch e
  · injection e with e1 _
    subst e1
    cases v <;> rfl
theorem vf (prog:Program) (w:World) (i:Int) (t:Tok):(bG prog w).is (.inl i) (.int i t)=true:=BD i t
theorem vg (prog:Program) (w:World) (x:Str) (t:Tok):(bG prog w).is (.inr x) (.str x t)=true:=BE x t
inductive V where
 | aT | bl (b:Bool) | int (i:Int) | str (x:Str) | YQ (b:Array UInt8) | YR (b:UInt64) | ref (a:Addr) | ty (n:String)
 deriving DecidableEq
def RelV:V→Value→Prop
 | .aT,u=>u=Value.none
 | .bl b,u=>u=Value.bool b
 | .int i,u=>∃ t,u=Value.int i t
 | .str x,u=>∃ t,u=Value.str x t
 | .YQ b,u=>∃ t,u=Value.bytes b t
 | .YR b,u=>∃ t,u=Value.float b t
 | .ref a,u=>u=Value.ref a
 | .ty n,u=>u=Value.type n
abbrev Vals:List V→List Value→Prop:=Paired RelV
theorem Vals.length {xs:List V} {us:List Value} (r:Vals xs us):xs.length=us.length:=Paired.length r
theorem Vals.get:∀ {xs:List V} {us:List Value} {i:Nat} {x:V},Vals xs us→xs[i]?=some x→∃ u,us[i]?=some u∧RelV x u
 | _,_,_,_,.nil,e=>by simp at e
 | _,_,0,_,.cons r _,e=>by simp at e; subst e; exact ⟨_,rfl,r⟩
 | _,_,i+1,x,.cons _ t,e=>by
   obtain ⟨u,h1,h2⟩:=Vals.get (i:=i) (x:=x) t (by simpa using e)
   exact ⟨u,by simpa using h1,h2⟩
theorem Vals.set {x:V} {u:Value} (r:RelV x u):∀ {xs:List V} {us:List Value} (i:Nat),Vals xs us→Vals (xs.set i x) (us.set i u)
 | _,_,_,.nil=>.nil
 | _,_,0,.cons _ t=>.cons r t
 | _,_,i+1,.cons q t=>.cons q (Vals.set r i t)
theorem Vals.append:∀ {xs ys:List V} {us ws:List Value},Vals xs us→Vals ys ws→Vals (xs ++ ys) (us ++ ws)
 | _,_,_,_,.nil,s=>s
 | _,_,_,_,.cons r t,s=>.cons r (Vals.append t s)
theorem Vals.take:∀ {xs:List V} {us:List Value} (n:Nat),Vals xs us→Vals (xs.take n) (us.take n)
 | _,_,0,_=>.nil
 | _,_,_+1,.nil=>.nil
 | _,_,n+1,.cons r t=>.cons r (Vals.take n t)
theorem Vals.drop:∀ {xs:List V} {us:List Value} (n:Nat),Vals xs us→Vals (xs.drop n) (us.drop n)
 | _,_,0,r=>r
 | _,_,_+1,.nil=>.nil
 | _,_,n+1,.cons _ t=>Vals.drop n t
def jq:Option V→Option Value→Prop
 | some v,some u=>RelV v u
 | none,none=>True
 | _,_=>False
def KV {κ:Type}:List (κ×V)→List (κ×Value)→Prop:=Paired fun (p:κ×V) (q:κ×Value)=>p.1=q.1∧RelV p.2 q.2
def kV:Key→V
 | .inl i=>.int i
 | .inr x=>.str x
inductive HO where
 | lst (xs:List V)
 | tup (xs:List V)
 | dK (aY:List (Key×V)) | dT (aY:List (List Key×V))
 | set (S:Int→Bool) (n:Nat)
 | ins (C dx:Addr) (fs:List (Str×V))
 | own (x:Addr)
 | xd (fs:List (Str×V))
 | met (f x:Addr)
 | YS (lo hi:Int)
 | vh (o:Obj) (u:HO)
 | Oz (ps:Array Value)
 | ext (φ:Heap→Prop)
abbrev Hp:=Addr→Option HO
def upd (H:Hp) (a:Addr) (o:HO):Hp:=fun b=>if b=a then some o else H b
theorem aI {H:Hp} {a:Addr} {o:HO}:upd H a o a=some o:=by unfold upd; rw [if_pos rfl]
theorem aA {H:Hp} {a b:Addr} {o:HO} (h:b≠a):upd H a o b=H b:=by unfold upd; rw [if_neg h]
theorem DZ {H:Hp} {a b:Addr} {o u:HO} (h:H a=some o) (h':H b=some u) (d:o≠u):a≠b:=by
 intro e; subst e; rw [h] at h'; exact d (Option.some.inj h')
theorem a9 {H:Hp} {a b:Addr} {o:HO} (h:H a=some o) (h':H b=none):a≠b:=by
 intro e; subst e; rw [h] at h'; cases h'
section
variable (P:Program) (w:World)
def cw (H:Hp) (h:Heap) (a:Addr):HO→Prop
 | .lst xs=>xs.length≤sizeLine∧∃ (aP:List Value) (n:Nat),Vals xs aP∧h.get? a=some { cls:=.type "list",data:=.seq aP.toArray n }
 | .tup xs=>xs.length≤sizeLine∧∃ aP:List Value,Vals xs aP∧IsTup h a aP.toArray
 | .dK aY=>aY.length≤sizeLine∧(a == sysModules)=false∧∃ vs,KV aY vs∧h.DictOf (bG P w) a vs
 | .dT aY=>aY.length≤sizeLine∧(a == sysModules)=false∧∃ xs:List (List Key×Addr×Value),
    Paired (fun (p:List Key×V) (q:List Key×Addr×Value)=>p.1=q.1∧H q.2.1=some (.tup (p.1.map kV))∧RelV p.2 q.2.2) aY xs ∧
    ∃ o es ep,h.get? a=some o∧o.ExactDict∧o.data = .dict es ep∧es.toList=xs.map (entryOfKey (tupleKind (bG P w)))∧(xs.map (·.1)).Nodup
 | .set S n=>h.SetOf (intKind P w) a S n
 | .ins C dx fs=>H dx=some (.own a)∧fs.length≤1000∧dx≠a∧h.get? a=some (PySem.W.instObj C dx) ∧
    ∃ mA,h.Ns1 dx mA∧(∀ f,jq (fs.lookup f) (mA f))∧PySem.Within mA (fs.map (·.1))
 | .own _=>∃ o,h.get? a=some o
 | .xd fs=>∃ mA,h.Ns1 a mA∧∀ f,jq (fs.lookup f) (mA f)
 | .YS lo hi=>∃ t u v,h.get? a=some { cls:=.type "range",data:=.fields #[.int lo t,.int hi u,.int 1 v] }
 | .vh o u=>h.get? a=some o∧cw H h a u
 | .Oz ps=>h.get? a=some { cls:=.none,data:=.fields ps }
 | .met f x=>h.get? a=some (PySem.W.methodObj (.ref f) (.ref x))
 | .ext φ=>φ h∧(∃ o,h.get? a=some o)∧∀ h1 h2:Heap,φ h1→(∀ o,h1.get? a=some o→h2.get? a=some o)→φ h2
def j3 (H:Hp) (h:Heap):Prop:=∀ a o,H a=some o→cw P w H h a o
end
section
variable {P:Program} {w:World} {H H':Hp} {h h':Heap} {a:Addr} {o:HO}
theorem cw.lt (x:cw P w H h a o):a < h.objs.size:=by
 cases o with
 | lst xs=>obtain ⟨_,_,_,_,e⟩:=x; exact fq e
 | tup xs=>obtain ⟨_,_,_,p⟩:=x; exact p.lt
 | dK aY=>obtain ⟨_,_,_,_,o,_,_,e,_⟩:=x; exact fq e
 | dT aY=>obtain ⟨_,_,_,_,o,_,_,e,_⟩:=x; exact fq e
 | set S n=>obtain ⟨o,_,_,_,e,_⟩:=x; exact fq e
 | ins C dx fs=>obtain ⟨_,_,_,e,_⟩:=x; exact fq e
 | own y=>obtain ⟨_,e⟩:=x; exact fq e
 | xd fs=>obtain ⟨_,⟨_,_,_,e,_⟩,_⟩:=x; exact fq e
 | YS lo hi=>obtain ⟨_,_,_,e⟩:=x; exact fq e
 | vh ob u=>obtain ⟨e,_⟩:=x; exact fq e
 | Oz ps=>exact fq (show h.get? a=some _ from x)
 | met f y=>exact fq (show h.get? a=some _ from x)
 | ext φ=>obtain ⟨_,⟨_,e⟩,_⟩:=x; exact fq e
theorem Paired.qj {α β:Type} {F G:α→β→Prop}:∀ {l₁:List α} {l₂:List β},Paired F l₁ l₂→(∀ a b,F a b→G a b)→Paired G l₁ l₂
 | _,_,.nil,_=>.nil
 | _,_,.cons r t,f=>.cons (f _ _ r) (Paired.qj t f)
theorem cw.x9 (x:cw P w H h a o) (k:∀ b u,(b=a∨H b=some (.own a))→h.get? b=some u→h'.get? b=some u)
  (ho:∀ b,H b=some (.own a)→H' b=some (.own a)) (ht:∀ b xs,H b=some (.tup xs)→H' b=some (.tup xs)):cw P w H' h' a o:=by
 induction o with
 | lst xs=>obtain ⟨z,aP,n,r,e⟩:=x; exact ⟨z,aP,n,r,k _ _ (.inl rfl) e⟩
 | tup xs=>obtain ⟨z,aP,r,ob,e,c⟩:=x; exact ⟨z,aP,r,ob,k _ _ (.inl rfl) e,c⟩
 | dK aY=>obtain ⟨z,y,vs,r,ob,es,ep,e,c⟩:=x; exact ⟨z,y,vs,r,ob,es,ep,k _ _ (.inl rfl) e,c⟩
 | dT aY =>
   obtain ⟨z,y,xs,r,ob,es,ep,e,c⟩:=x
   exact ⟨z,y,xs,Paired.qj r fun p q z=>⟨z.1,ht _ _ z.2.1,z.2.2⟩,ob,es,ep,k _ _ (.inl rfl) e,c⟩
 | set S n=>obtain ⟨ob,es,ep,t,e,c⟩:=x; exact ⟨ob,es,ep,t,k _ _ (.inl rfl) e,c⟩
 | ins C dx fs =>
   obtain ⟨d,z,ne,e,mA,⟨od,es,ep,e2,c⟩,r⟩:=x
   exact ⟨ho _ d,z,ne,k _ _ (.inl rfl) e,mA,⟨od,es,ep,k _ _ (.inr d) e2,c⟩,r⟩
 | own y=>obtain ⟨ob,e⟩:=x; exact ⟨ob,k _ _ (.inl rfl) e⟩
 | xd fs=>obtain ⟨mA,⟨od,es,ep,e,c⟩,r⟩:=x; exact ⟨mA,⟨od,es,ep,k _ _ (.inl rfl) e,c⟩,r⟩
 | YS lo hi=>obtain ⟨t,u,v,e⟩:=x; exact ⟨t,u,v,k _ _ (.inl rfl) e⟩
 | vh ob u ih=>obtain ⟨e,q⟩:=x; exact ⟨k _ _ (.inl rfl) e,ih q⟩
 | Oz ps =>
   have e:h.get? a=some { cls:=.none,data:=.fields ps }:=x
   show h'.get? a=some { cls:=.none,data:=.fields ps }
   exact k a _ (.inl rfl) e
 | met f y =>
   have e:h.get? a=some (PySem.W.methodObj (.ref f) (.ref y)):=x
   show h'.get? a=some (PySem.W.methodObj (.ref f) (.ref y))
   exact k a _ (.inl rfl) e
 | ext φ=>obtain ⟨p,⟨o,e⟩,st⟩:=x; exact ⟨st _ _ p fun o q=>k _ _ (.inl rfl) q,⟨o,k _ _ (.inl rfl) e⟩,st⟩
theorem j3.lt (x:j3 P w H h) (e:H a=some o):a < h.objs.size:=(x a o e).lt
theorem j3.fresh (x:j3 P w H h) (e:h.objs.size≤a):H a=none:=by
 cases q:H a with
 | none=>rfl
 | some u=>exact absurd (rg (x.lt q) e) (DG _)
theorem j3.kept (x:j3 P w H h) (k:∀ b u,h.get? b=some u→h'.get? b=some u):j3 P w H h':=fun a o e =>
 (x a o e).x9 (fun b u _ q=>k b u q) (fun _ q=>q) fun _ _ q=>q
theorem j3.laid (x:j3 P w H h) (k:∀ b u,h.get? b=some u→h'.get? b=some u) (hp:h.objs.size≤a) (new:cw P w (upd H a o) h' a o):j3 P w (upd H a o) h':=fun b u e=>by
 have hn:=x.fresh hp
 by_cases hb:b=a
 · subst hb; rw [aI] at e; cases e; exact new
 · rw [aA hb] at e
   exact (x b u e).x9 (fun c v _ q=>k c v q) (fun c q=>by rw [aA (a9 q hn)]; exact q) fun c xs q=>by rw [aA (a9 q hn)]; exact q
end
def Rd (H:Hp) (a:Addr) (u:HO):Prop:=H a=some u∨∃ o,H a=some (.vh o u)
theorem Rd.ok {P:Program} {w:World} {H:Hp} {h:Heap} {a:Addr} {u:HO} (r:Rd H a u) (x:j3 P w H h):cw P w H h a u:=by
 rcases r with r | ⟨o,r⟩
 · exact x a u r
 · obtain ⟨_,q⟩:=x a _ r
   exact q
def Tn:Option HO→Prop
 | some (.lst _)=>True
 | some (.dK _)=>True
 | some (.dT _)=>True
 | some (.set _ _)=>True
 | some (.ins _ _ _)=>True
 | some (.ext _)=>True
 | _=>False
section
variable {P:Program} {w:World} {H:Hp} {h h':Heap} {x e:Addr} {o':HO}
theorem j3.write (ok:j3 P w H h) (mu:Tn (H x)) (he:e=x∨H e=some (.own x)) (k:∀ b u,b≠e→h.get? b=some u→h'.get? b=some u) (IG:∃ u,h'.get? e=some u)
  (new:cw P w (upd H x o') h' x o'):j3 P w (upd H x o') h':=fun b u q=>by
 have To:∀ c y,H c=some (.own y)→c≠x:=fun c y r z=>by subst z; rw [r] at mu; exact mu
 have YT:∀ c xs,H c=some (.tup xs)→c≠x:=fun c xs r z=>by subst z; rw [r] at mu; exact mu
 by_cases hb:b=x
 · subst hb; rw [aI] at q; cases q; exact new
 · rw [aA hb] at q
   by_cases BF:b=e
   · have q':H b=some (.own x):=by
      rcases he with z | z
      · exact absurd (BF.trans z) hb
      · rw [BF]; exact z
     rw [q] at q'; cases q'
     obtain ⟨v,hv⟩:=IG
     exact ⟨v,by rw [BF]; exact hv⟩
   · refine (ok b u q).x9 (fun c v hc r=>k c v ?_ r) (fun c r=>by rw [aA (To c b r)]; exact r) fun c xs r=>by rw [aA (YT c xs r)]; exact r
     rcases hc with rfl | hc
     · exact BF
     · rintro rfl
       rcases he with z | z
       · exact To c b hc z
       · rw [hc] at z; cases z; exact hb rfl
end
structure Un (fs ex:List Addr) (H H':Hp) (h h':Heap):Prop where
 keep:∀ b o,h.get? b=some o→H b=none→b∉fs→b∉ex→h'.get? b=some o
 slot:∀ b o,h.get? b=some o→H b=none→b∈fs→b∉ex→∃ sl,h'.get? b=some { o with slots:=sl }
 free:∀ b o,h.get? b=some o→H b=none→b∉ex→H' b=none
 there:∀ b o,h.get? b=some o→b∉ex→∃ o',h'.get? b=some o'
 vi:∀ b xs,H b=some (.tup xs)→H' b=some (.tup xs)
 sD:∀ b o u,H b=some (.vh o u)→H' b=some (.vh o u)
 vj:∀ b ps,H b=some (.Oz ps)→∃ more,H' b=some (.Oz (ps ++ more))
section
variable {fs YU ex YV:List Addr} {H H1 H2:Hp} {h h1 h2 h':Heap} {a x e:Addr} {o:HO}
theorem Un.any (u:Un fs ex H H1 h h1) {b:Addr} {ob:Obj} (q:h.get? b=some ob) (n:H b=none) (hx:b∉ex):∃ sl,h1.get? b=some { ob with slots:=sl }:=by
 by_cases hb:b∈fs
 · exact u.slot b ob q n hb hx
 · exact ⟨ob.slots,u.keep b ob q n hb hx⟩
theorem Un.kept (k:∀ b u,h.get? b=some u→h'.get? b=some u):Un fs ex H H h h' :=
 ⟨fun b ob q _ _ _=>k b ob q,fun b ob q _ _ _=>⟨ob.slots,k b ob q⟩,fun _ _ _ n _=>n,fun b ob q _=>⟨ob,k b ob q⟩,fun _ _ q=>q,fun _ _ _ q=>q,fun _ ps q=>⟨#[],by rw [q]; simp⟩⟩
theorem Un.refl:Un fs ex H H h h:=Un.kept fun _ _ q=>q
theorem Un.laid (k:∀ b u,h.get? b=some u→h'.get? b=some u) (hp:h.objs.size≤a) (hn:H a=none):Un fs ex H (upd H a o) h h' where
 keep:=fun b u q _ _ _=>k b u q
 slot:=fun b u q _ _ _=>⟨u.slots,k b u q⟩
 free:=fun b u q n _=>by rw [aA (j4 (rg (fq q) hp))]; exact n
 there:=fun b u q _=>⟨u,k b u q⟩
 vi:=fun b xs q=>by rw [aA (a9 q hn)]; exact q
 sD:=fun b u xs q=>by rw [aA (a9 q hn)]; exact q
 vj:=fun b ps q=>⟨#[],by rw [aA (a9 q hn),q]; simp⟩
theorem Un.write (mu:Tn (H x)) (he:e=x∨H e=some (.own x)) (k:∀ b u,b≠e→h.get? b=some u→h'.get? b=some u) (IG:∃ u,h'.get? e=some u):Un fs ex H (upd H x o) h h':=by
 have hx:∀ b,H b=none→b≠x:=fun b n z=>by subst z; rw [n] at mu; exact mu
 have hb:∀ b,H b=none→b≠e:=fun b n z=>by
  subst z
  rcases he with r | r
  · exact hx b n r
  · rw [n] at r; cases r
 have hm:∀ b u,H b=some u→¬ Tn (some u)→b≠x:=fun b u q nm z=>by subst z; rw [q] at mu; exact nm mu
 refine ⟨fun b u q n _ _=>k b u (hb b n) q,fun b u q n _ _=>⟨u.slots,k b u (hb b n) q⟩,fun b u q n _=>by rw [aA (hx b n)]; exact n,fun b u q _=>?_,
  fun b xs q=>by rw [aA (hm b _ q fun z=>z)]; exact q,fun b u xs q=>by rw [aA (hm b _ q fun z=>z)]; exact q,fun b ps q=>⟨#[],by rw [aA (hm b _ q fun z=>z),q]; simp⟩⟩
 by_cases BF:b=e
 · subst BF; exact IG
 · exact ⟨u,k b u BF q⟩
end
def XQ (h:Heap) (H:Hp):List Addr:=(List.range h.objs.size).filter fun a=>(H a).isSome
def sE (h:Heap) (H:Hp):Heap:=PySem.W.hideAll h (XQ h H)
theorem BG (h:Heap) (H:Hp):(sE h H).objs.size=h.objs.size:=PySem.W.hideAll_size _ _
theorem D_ {h:Heap} {H:Hp} {b:Addr} {o:Obj} (e:h.get? b=some o) (n:H b=none):(sE h H).get? b=some o :=
 PySem.W.hideAll_get _ e fun hm=>by
  have q:(H b).isSome=true:=(List.mem_filter.mp hm).2
  rw [n] at q; simp at q
theorem IY {h:Heap} {H:Hp} {b:Addr} {o:Obj} (e:(sE h H).get? b=some o):h.get? b=some o∧H b=none:=by
 have e':h.get? b=some o:=PySem.W.of_hideAll (XQ h H) e
 refine ⟨e',?_⟩
 cases q:H b with
 | none=>rfl
 | some x =>
   have hm:b∈XQ h H:=List.mem_filter.mpr ⟨IE.mpr (fq e'),by simp [q]⟩
   have z:(sE h H).get? b=none:=PySem.W.hideAll_none (XQ h H) hm
   rw [z] at e; cases e
def IZ (g h:Heap) (L:Addr):List (Addr×Obj):=(List.range h.objs.size).filterMap fun a=>if a=L∨(g.get? a).isSome=true then none else (h.get? a).map fun o=>(a,o)
def rest (g h:Heap) (L d:Addr):List (Addr×Obj):=(IZ g h L).filter fun p=>decide (p.1≠d)
structure Mod (K:KFr) (mg:Str→Option Value) (base:Heap):Prop where
 SG:K.In base
 glob:base.Ns mainGlobals mg
 blt:∃ mb,base.Ns builtinsNs mb∧∀ x:Str,x≠"__name__"→mb x=bootBuiltins x
 nolimit:base.NoLimit
structure Cx where
 prog:Program
 w:World
 K:KFr
 mg:Str→Option Value
 base:Heap
 A:Around
 N:List Str
 s₀:Shared
 H₀:Hp
 env:Env
 outer:List Env
 stack:List Env
 ex:List Addr
 fn:Str→Bool
 calm:Bool
 pn:List (Addr×Obj)
 xe:Value→Shared→Prop
def DH (l:List Env):List Addr:=l.filterMap (·.frame)
abbrev Cx.fs (X:Cx):List Addr:=DH X.outer
def j5 (sc:Scope) (x:Str):Prop:=sc.names.lookup x=some .local∨sc.names.lookup x=some .cell∨sc.names.lookup x=some .free
def Loc (sc:Scope) (x:Str):Prop:=sc.names.lookup x=some .local∨sc.names.lookup x=some .cell
def Look (env:Env) (h:Heap) (m:Str→Option Value) (x:Str) (u:Value):Prop :=
 (env.kindOf x=some .local∧m x=some u)∨((env.kindOf x=some .cell∨env.kindOf x=some .free)∧∃ c,env.cells.lookup x=some c∧h.IsCell c (some u))
structure Cx.Ok (X:Cx):Prop where
 mod:Mod X.K X.mg X.base
 kind:X.env.scope.kind = .function
 glob:X.env.globals=mainGlobals
 blt:X.env.builtins=builtinsNs
 above:X.s₀.heap.objs.size≤X.env.locals
 inj:∀ x y c,X.env.cells.lookup x=some c→X.env.cells.lookup y=some c→x=y
 has:∀ x,(X.env.kindOf x=some .cell∨X.env.kindOf x=some .free)→∃ c,X.env.cells.lookup x=some c
 OA:∀ x c,X.fn x=true→X.env.cells.lookup x=some c→X.s₀.heap.objs.size≤c
 hd:X.calm=true→X.A.handled=none
 frames:X.A.frames=some X.stack
 SH:X.stack=X.outer∨(X.stack=X.env :: X.outer∧X.env.frame=some X.env.locals)
 XR:∀ b∈X.ex,b≠X.env.locals∧∀ x c,X.env.cells.lookup x=some c→c≠b
 bs:∀ b o,X.base.get? b=some o→X.s₀.heap.get? b=some o∧X.H₀ b=none
 DI:X.base.objs.size≤X.s₀.heap.objs.size
 x_:∀ b o,X.base.get? b=some o→b∉X.ex
 BH:∀ b∈X.ex,b∉X.fs
 j6:X.s₀.heap.FunFrames X.base X.outer
 I9:∀ b∈X.fs,X.H₀ b=none
structure Inv (X:Cx) (pins:List (Addr×Obj)) (σ:List (Option V)) (H:Hp) (s:Shared):Prop where
 ok:X.Ok
 os:s.os=X.s₀.os
 bare:AllBare s.gens
 base:Un X.fs X.ex X.H₀ H X.s₀.heap s.heap
 loc:∃ m,s.heap.Ns X.env.locals m∧∀ (i:Nat) (x:Str) (v:V),X.N[i]?=some x→σ[i]?=some (some v)→j5 X.env.scope x→∃ u,RelV v u∧Look X.env s.heap m x u
 cell:∀ x c,X.env.cells.lookup x=some c→∃ v,s.heap.IsCell c v
 free:H X.env.locals=none
 gm:∀ x c,X.env.cells.lookup x=some c→H c=none
 pin:∀ p∈X.pn ++ pins,s.heap.get? p.1=some p.2∧H p.1=none∧p.1≠X.env.locals∧p.1∉X.fs∧∀ v,p.2.data≠.cell v
 cg:j3 X.prog X.w H s.heap
 len:σ.length=X.N.length
section
variable {X:Cx} {pins:List (Addr×Obj)} {σ:List (Option V)} {H H':Hp} {s:Shared} {h':Heap}
theorem Cx.Ok.YW (ok:X.Ok) {b:Addr} {o:Obj} (e:X.base.get? b=some o):b∉X.fs:=fun hb=>by
 have:=(ok.j6.mem hb).1
 rw [e] at this; cases this
theorem Inv.bs (I:Inv X pins σ H s):∀ b o,X.base.get? b=some o→s.heap.get? b=some o∧H b=none:=fun b o e =>
 ⟨I.base.keep b o (I.ok.bs b o e).1 (I.ok.bs b o e).2 (I.ok.YW e) (I.ok.x_ b o e),I.base.free b o (I.ok.bs b o e).1 (I.ok.bs b o e).2 (I.ok.x_ b o e)⟩
theorem Inv.bk (I:Inv X pins σ H s):∀ b o,X.base.get? b=some o→s.heap.get? b=some o:=fun b o e=>(I.bs b o e).1
theorem Inv.mod (I:Inv X pins σ H s):Mod X.K X.mg X.base:=I.ok.mod
theorem Inv.qk (I:Inv X pins σ H s):X.K.In s.heap:=I.ok.mod.SG.keeps I.bk
theorem Inv.fr (I:Inv X pins σ H s):∃ m,Fr X.base X.env.locals s.heap m :=
 let ⟨m,hn,_⟩:=I.loc
 ⟨m,hn,I.bk,k0 I.ok.DI I.ok.above⟩
theorem Inv.lt (I:Inv X pins σ H s):X.env.locals < s.heap.objs.size:=let ⟨_,hn,_⟩:=I.loc; hn.lt
theorem Inv.sz (I:Inv X pins σ H s):X.s₀.heap.objs.size≤s.heap.objs.size:=k0 I.ok.above (Nat.le_of_lt I.lt)
theorem Inv.YX (I:Inv X pins σ H s) {a:Addr} (h:s.heap.objs.size≤a):a∉X.fs:=fun hb=>by
 obtain ⟨_,o,ho,_⟩:=I.ok.j6.mem hb
 exact absurd (rg (fq ho) (k0 I.sz h)) (DG _)
theorem Inv.I_ (I:Inv X pins σ H s):∀ x c,X.env.cells.lookup x=some c→c≠X.env.locals:=fun x c e z=>by
 obtain ⟨v,o,ho,hd⟩:=I.cell x c e
 obtain ⟨m,⟨o',es,ep,nX,Tp,_⟩,_⟩:=I.loc
 rw [z,nX] at ho; cases ho; rw [Tp] at hd; cases hd
theorem Inv.j6 (I:Inv X pins σ H s):s.heap.FunFrames X.base X.outer:=by
 have all:∀ (l:List Env),(∀ b∈DH l,b∈X.fs)→X.s₀.heap.FunFrames X.base l→s.heap.FunFrames X.base l:=by
  intro l
  induction l with
  | nil=>intro _ _; trivial
  | cons env r ih =>
    intro hs hl
    obtain ⟨hk,⟨L,o,hf,hn,ho,hd⟩,hr⟩:=hl
    have hL:L∈X.fs:=hs L (by unfold DH; rw [mx,hf]; exact c6)
    obtain ⟨sl,e⟩:=I.base.slot L o ho (I.ok.I9 L hL) hL fun z=>I.ok.BH L z hL
    exact ⟨hk,⟨L,_,hf,hn,e,hd⟩,ih (fun b hb=>hs b (by unfold DH; rw [mx,hf]; exact eB _ hb)) hr⟩
 exact all X.outer (fun _ hb=>hb) I.ok.j6
theorem Inv.stack (I:Inv X pins σ H s):s.heap.FunFrames X.base X.stack:=by
 rcases I.ok.SH with e | ⟨e,hf⟩
 · rw [e]; exact I.j6
 · rw [e]
   obtain ⟨m,hn,_⟩:=I.loc
   refine .cons (by rw [I.ok.kind]; decide) hf hn ?_ I.j6
   exact Heap.get?_none_of_le (k0 I.ok.DI I.ok.above)
theorem Inv.ya (I:Inv X pins σ H s):∀ b∈DH X.stack,b∈X.env.locals :: X.fs:=fun b hb=>by
 rcases I.ok.SH with e | ⟨e,hf⟩
 · rw [e] at hb; exact eB _ hb
 · rw [e] at hb
   unfold DH at hb
   rw [mx,hf] at hb
   exact hb
theorem Inv.Aq (I:Inv X pins σ H s):∀ b∈DH X.stack,H b=none:=fun b hb=>by
 rcases cY.mp (I.ya b hb) with e | hb
 · rw [e]; exact I.free
 · obtain ⟨_,o,ho,_⟩:=I.ok.j6.mem hb
   exact I.base.free b o ho (I.ok.I9 b hb) fun z=>I.ok.BH b z hb
theorem Inv.step {g':Array GenState} {t':Nat} {d':Drawn} {ch:List Addr} (I:Inv X pins σ H s)
  (IH:∀ b∈ch,(b∈X.ex∨X.s₀.heap.objs.size≤b)∧b≠X.env.locals∧(∀ x c,X.env.cells.lookup x=some c→c≠b)∧∀ p∈X.pn ++ pins,p.1≠b)
  (keep:∀ b o,b≠X.env.locals→b∉X.fs→b∉ch→s.heap.get? b=some o→H b=none→h'.get? b=some o)
  (slot:∀ b o,b≠X.env.locals→b∈X.fs→b∉ch→s.heap.get? b=some o→H b=none→∃ sl,h'.get? b=some { o with slots:=sl }) (free:∀ b o,b∉ch→s.heap.get? b=some o→H b=none→H' b=none)
  (there:∀ b o,b∉ch→s.heap.get? b=some o→∃ o',h'.get? b=some o')
  (vi:∀ b xs,H b=some (.tup xs)→H' b=some (.tup xs)) (sD:∀ b o u,H b=some (.vh o u)→H' b=some (.vh o u)) (vj:∀ b ps,H b=some (.Oz ps)→∃ more,H' b=some (.Oz (ps ++ more)))
  (ns:∀ m,s.heap.Ns X.env.locals m→h'.Ns X.env.locals m) (cg:j3 X.prog X.w H' h') (hg:AllBare g') :
  Inv X pins σ H' { s with heap:=h',gens:=g',drawn:=d',toks:=t' }:=by
 have neL:∀ b o,X.s₀.heap.get? b=some o→b≠X.env.locals:=fun b o e=>j4 (rg (fq e) I.ok.above)
 have XS:∀ b o,X.s₀.heap.get? b=some o→b∉X.ex→b∉ch:=fun b o e hx hb=>by
  rcases (IH b hb).1 with z | z
  · exact hx z
  · exact absurd (rg (fq e) z) (DG _)
 have cellK:∀ x c,X.env.cells.lookup x=some c→∀ v,s.heap.IsCell c v→h'.IsCell c v:=fun x c e v ⟨o,ho,hd⟩=>by
  have D':c∉ch:=fun z=>(IH c z).2.2.1 x c e rfl
  by_cases hc:c∈X.fs
  · obtain ⟨sl,q⟩:=slot c o (I.I_ x c e) hc D' ho (I.gm x c e)
    exact ⟨_,q,hd⟩
  · exact ⟨o,keep c o (I.I_ x c e) hc D' ho (I.gm x c e),hd⟩
 refine ⟨I.ok,I.os,hg,⟨fun b o e n hb hx=>?_,fun b o e n hb hx=>?_,fun b o e n hx=>?_,fun b o e hx=>?_,fun b xs e=>vi b xs (I.base.vi b xs e),fun b o xs e=>sD b o xs (I.base.sD b o xs e),fun b ps e=>?_⟩,?_,fun x c e=>?_,?_,fun x c e=>?_,fun p hp=>?_,cg,I.len⟩
 · exact keep b o (neL b o e) hb (XS b o e hx) (I.base.keep b o e n hb hx) (I.base.free b o e n hx)
 · obtain ⟨sl,e1⟩:=I.base.slot b o e n hb hx
   obtain ⟨sl',e2⟩:=slot b _ (neL b o e) hb (XS b o e hx) e1 (I.base.free b o e n hx)
   exact ⟨sl',e2⟩
 · obtain ⟨o',e1⟩:=I.base.there b o e hx
   exact free b o' (XS b o e hx) e1 (I.base.free b o e n hx)
 · obtain ⟨o',e1⟩:=I.base.there b o e hx
   exact there b o' (XS b o e hx) e1
 · obtain ⟨m1,e1⟩:=I.base.vj b ps e
   obtain ⟨m2,e2⟩:=vj b _ e1
   exact ⟨m1 ++ m2,by rw [e2,Array.append_assoc]⟩
 · obtain ⟨m,hn,hl⟩:=I.loc
   refine ⟨m,ns m hn,fun i x v e1 e2 e3=>?_⟩
   obtain ⟨u,r,l⟩:=hl i x v e1 e2 e3
   refine ⟨u,r,?_⟩
   rcases l with l | ⟨k,c,e,z⟩
   · exact .inl l
   · exact .inr ⟨k,c,e,cellK x c e _ z⟩
 · obtain ⟨v,z⟩:=I.cell x c e
   exact ⟨v,cellK x c e v z⟩
 · obtain ⟨m,⟨o,_,_,ho,_⟩,_⟩:=I.loc
   exact free _ o (fun z=>(IH _ z).2.1 rfl) ho I.free
 · obtain ⟨v,o,ho,hd⟩:=I.cell x c e
   exact free c o (fun z=>(IH c z).2.2.1 x c e rfl) ho (I.gm x c e)
 · obtain ⟨e,n,ne,nf,d⟩:=I.pin p hp
   have D':p.1∉ch:=fun z=>(IH p.1 z).2.2.2 p hp rfl
   exact ⟨keep p.1 p.2 ne nf D' e n,free p.1 p.2 D' e n,ne,nf,d⟩
theorem Inv.un {t':Nat} (I:Inv X pins σ H s) (u:Un X.fs [] H H' s.heap h') (cg:j3 X.prog X.w H' h'):Inv X pins σ H' { s with heap:=h',toks:=t' }:=by
 obtain ⟨m,⟨o,es,ep,ho,r⟩,_⟩:=id I.loc
 obtain ⟨sl,hL⟩:=u.any ho I.free (by simp)
 exact I.step (g':=s.gens) (d':=s.drawn) (ch:=[]) (fun _ z=>nomatch z) (fun b o _ hb _ e n=>u.keep b o e n hb (by simp)) (fun b o _ hb _ e n=>u.slot b o e n hb (by simp)) (fun b o _ e n=>u.free b o e n (by simp)) (fun b o _ e=>u.there b o e (by simp)) u.vi u.sD u.vj (fun m' hm=>by
  obtain ⟨o',YY,YZ,nX,r'⟩:=hm
  rw [ho] at nX; cases nX
  exact ⟨_,YY,YZ,hL,r'⟩) cg I.bare
theorem Inv.call {g':Array GenState} {t':Nat} {d':Drawn} {ch:List Addr} (I:Inv X pins σ H s) (u:Un (DH X.stack) ch H H' s.heap h') (cg:j3 X.prog X.w H' h') (hg:AllBare g')
  (IH:∀ b∈ch,(b∈X.ex∨X.s₀.heap.objs.size≤b)∧b≠X.env.locals∧(∀ x c,X.env.cells.lookup x=some c→c≠b)∧∀ p∈X.pn ++ pins,p.1≠b) :
  Inv X pins σ H' { s with heap:=h',gens:=g',drawn:=d',toks:=t' }:=by
 obtain ⟨m,⟨o,es,ep,ho,r⟩,_⟩:=id I.loc
 obtain ⟨sl,hL⟩:=u.any ho I.free fun z=>(IH _ z).2.1 rfl
 exact I.step (ch:=ch) IH (fun b o hL hb hc e n=>u.keep b o e n (fun z=>(cY.mp (I.ya b z)).elim hL hb) hc) (fun b o _ _ hc e n=>u.any e n hc) (fun b o hc e n=>u.free b o e n hc) (fun b o hc e=>u.there b o e hc) u.vi u.sD u.vj (fun m' hm=>by
  obtain ⟨o',YY,YZ,nX,r'⟩:=hm
  rw [ho] at nX; cases nX
  exact ⟨_,YY,YZ,hL,r'⟩) cg hg
theorem Inv.turned {t':Nat} {it:Addr} (I:Inv X pins σ H s) (k:∀ b o,b≠it→s.heap.get? b=some o→h'.get? b=some o) (hn:H it=none) (hL:it≠X.env.locals)
  (h1:it∈X.ex∨X.s₀.heap.objs.size≤it) (h2:∀ x c,X.env.cells.lookup x=some c→c≠it) (h3:∀ p∈X.pn ++ pins,p.1≠it):Inv X pins σ H { s with heap:=h',toks:=t' }:=by
 have nit:∀ b u,H b=some u→b≠it:=fun b u e z=>by rw [z,hn] at e; cases e
 refine I.step (g':=s.gens) (d':=s.drawn) (ch:=[it]) (fun b hb=>?_) (fun b o _ _ hc e _=>k b o (fun z=>hc (by simp [z])) e) (fun b o _ _ hc e _=>⟨o.slots,k b o (fun z=>hc (by simp [z])) e⟩) (fun _ _ _ _ n=>n)
  (fun b o hc e=>⟨o,k b o (fun z=>hc (by simp [z])) e⟩) (fun _ _ e=>e) (fun _ _ _ e=>e) (fun b ps e=>⟨#[],by rw [e]; simp⟩) (fun m hm=>?_) (fun b u e=>?_) I.bare
 · have e:b=it:=by simpa using hb
   subst e
   exact ⟨h1,hL,h2,h3⟩
 · obtain ⟨o,es,ep,ho,r⟩:=hm
   exact ⟨o,es,ep,k _ o (Ne.symm hL) ho,r⟩
 · refine (I.cg b u e).x9 (fun c v hc q=>k c v ?_ q) (fun _ q=>q) fun _ _ q=>q
   rcases hc with z | z
   · rw [z]; exact nit b u e
   · exact nit c _ z
theorem Inv.tok (I:Inv X pins σ H s) (t:Nat):Inv X pins σ H { s with toks:=t }:=I.un (h':=s.heap) (t':=t) Un.refl I.cg
theorem Inv.kept {t':Nat} (I:Inv X pins σ H s) (k:∀ b u,s.heap.get? b=some u→h'.get? b=some u):Inv X pins σ H { s with heap:=h',toks:=t' }:=I.un (Un.kept k) (I.cg.kept k)
theorem Inv.laid {a:Addr} {o:HO} {t':Nat} (I:Inv X pins σ H s) (k:∀ b u,s.heap.get? b=some u→h'.get? b=some u) (hp:s.heap.objs.size≤a) (new:cw X.prog X.w (upd H a o) h' a o) :
 Inv X pins σ (upd H a o) { s with heap:=h',toks:=t' }:=I.un (Un.laid k hp (I.cg.fresh hp)) (I.cg.laid k hp new)
theorem Inv.write {x e:Addr} {o:HO} {t':Nat} (I:Inv X pins σ H s) (mu:Tn (H x)) (he:e=x∨H e=some (.own x)) (k:∀ b u,b≠e→s.heap.get? b=some u→h'.get? b=some u) (IG:∃ u,h'.get? e=some u)
 (new:cw X.prog X.w (upd H x o) h' x o):Inv X pins σ (upd H x o) { s with heap:=h',toks:=t' }:=I.un (Un.write mu he k IG) (I.cg.write mu he k IG new)
theorem Inv.weak {σ':List (Option V)} (I:Inv X pins σ H s) (hl:σ'.length=σ.length) (w:∀ (i:Nat) v,σ'[i]?=some (some v)→σ[i]?=some (some v)):Inv X pins σ' H s :=
 ⟨I.ok,I.os,I.bare,I.base,let ⟨m,hn,MJ⟩:=I.loc; ⟨m,hn,fun i x v e1 e2 e3=>MJ i x v e1 (w i v e2) e3⟩,I.cell,I.free,I.gm,I.pin,I.cg,hl.trans I.len⟩
theorem Inv.Ar {As:List (Addr×Obj)} (I:Inv X pins σ H s) (h:∀ p∈As,s.heap.get? p.1=some p.2∧H p.1=none∧p.1≠X.env.locals∧p.1∉X.fs∧∀ v,p.2.data≠.cell v):Inv X As σ H s :=
 ⟨I.ok,I.os,I.bare,I.base,I.loc,I.cell,I.free,I.gm,fun p hp=>(cA.mp hp).elim (fun z=>I.pin p (cq _ z)) (h p),I.cg,I.len⟩
theorem vk {N:List Str} (hN:N.Nodup) {i j:Nat} {x:Str} (a:N[i]?=some x) (b:N[j]?=some x):i=j:=by
 obtain ⟨h1,e1⟩:=fG.mp a
 obtain ⟨h2,e2⟩:=fG.mp b
 exact (List.getElem_inj hN).mp (e1.trans e2.symm)
theorem rm {M:Model} {A:Around} {E:Value→Shared→Prop} {i:Nat} {x:Str} {v:V} {u:Value} {Q:Unit→Shared→Prop} (I:Inv X pins σ H s) (hN:X.N.Nodup) (hi:X.N[i]?=some x) (hx:Loc X.env.scope x) (r:RelV v u)
  (h:∀ s',Inv X pins (σ.set i (some v)) H s'→(∃ a,Heap.SameBut a s.heap s'.heap∧(a=X.env.locals∨X.env.cells.lookup x=some a))→Q () s') (hf:X.fn x=true∨X.env.scope.names.lookup x=some .local:=by first | exact .inl rfl | exact .inr rfl | assumption):wpAny M A (storeName X.env x u) Q E s:=by
 obtain ⟨m,hn,hl⟩:=id I.loc
 have Y0:(X.env.scope.kind == .class || (X.env.scope.kind == .module && X.env.locals != X.env.globals))=false:=by rw [I.ok.kind]; rfl
 have hiσ:i < σ.length:=by rw [I.len]; exact (fG.mp hi).1
 have I_:=I.I_
 have tracked:∀ {a:Addr} {h':Heap},(∃ o,s.heap.get? a=some o∧H a=none)→Heap.SameBut a s.heap h'→j3 X.prog X.w H h':=fun {a h'} ha hs b ob e=>by
  obtain ⟨_,_,MK⟩:=ha
  refine (I.cg b ob e).x9 (fun c w' hc q=>(hs.2 c ?_).trans q) (fun _ q=>q) fun _ _ q=>q
  rintro rfl
  rcases hc with rfl | hc
  · rw [MK] at e; cases e
  · rw [MK] at hc; cases hc
 rcases hx with hk | hk
 · refine wpAny_storeName_local hk hn (fun h' hn' hs=>?_) Y0
   obtain ⟨oL,_,_,hoL,_⟩:=id hn
   refine h _ ⟨I.ok,I.os,I.bare,⟨fun b o e n hb hx=>?_,fun b o e n hb hx=>?_,I.base.free,fun b o e hx=>?_,I.base.vi,I.base.sD,I.base.vj⟩,⟨_,hn',fun j y v' e1 e2 e3=>?_⟩,fun y c e=>?_,I.free,I.gm,fun p hp=>?_,tracked ⟨oL,hoL,I.free⟩ hs,by simpa using I.len⟩ ⟨_,hs,.inl rfl⟩
   · exact (hs.2 b (j4 (rg (fq e) I.ok.above))).trans (I.base.keep b o e n hb hx)
   · obtain ⟨sl,e1⟩:=I.base.slot b o e n hb hx
     exact ⟨sl,(hs.2 b (j4 (rg (fq e) I.ok.above))).trans e1⟩
   · obtain ⟨o',e1⟩:=I.base.there b o e hx
     exact ⟨o',(hs.2 b (j4 (rg (fq e) I.ok.above))).trans e1⟩
   · by_cases hj:j=i
     · subst hj
       rw [hi] at e1; cases e1
       rw [Am hiσ] at e2
       cases e2
       exact ⟨u,r,.inl ⟨hk,by simp⟩⟩
     · rw [rf (Ne.symm hj)] at e2
       obtain ⟨u',r',q⟩:=hl j y v' e1 e2 e3
       refine ⟨u',r',?_⟩
       rcases q with ⟨k,e⟩ | ⟨k,c,e,z⟩
       · refine .inl ⟨k,?_⟩
         have:y≠x:=fun e=>hj (vk hN e1 (e▸hi))
         simp [this,e]
       · exact .inr ⟨k,c,e,z.sameBut hs (I_ y c e)⟩
   · obtain ⟨w',z⟩:=I.cell y c e
     exact ⟨w',z.sameBut hs (I_ y c e)⟩
   · obtain ⟨e,n,ne,nf,d⟩:=I.pin p hp
     exact ⟨(hs.2 p.1 ne).trans e,n,ne,nf,d⟩
 · have XT:X.fn x=true:=by
    rcases hf with z | z
    · exact z
    · rw [z] at hk; cases hk
   obtain ⟨c,hc⟩:=I.ok.has x (.inl hk)
   obtain ⟨w',z⟩:=I.cell x c hc
   refine wpAny_storeName_cell I.ok.kind hk hc z (fun h' nY hs=>?_)
   obtain ⟨oc,hoc,Y1⟩:=id z
   refine h { s with heap:=h' } ⟨I.ok,I.os,I.bare,⟨fun b o e n hb hx=>?_,fun b o e n hb hx=>?_,I.base.free,fun b o e hx=>?_,I.base.vi,I.base.sD,I.base.vj⟩,⟨m,hn.sameBut hs (Ne.symm (I_ x c hc)),fun j y v' e1 e2 e3=>?_⟩,fun y c' e=>?_,I.free,I.gm,fun p hp=>?_,tracked ⟨oc,hoc,I.gm x c hc⟩ hs,by simpa using I.len⟩ ⟨c,hs,.inr hc⟩
   · exact (hs.2 b (j4 (rg (fq e) (I.ok.OA x c XT hc)))).trans (I.base.keep b o e n hb hx)
   · obtain ⟨sl,e1⟩:=I.base.slot b o e n hb hx
     exact ⟨sl,(hs.2 b (j4 (rg (fq e) (I.ok.OA x c XT hc)))).trans e1⟩
   · obtain ⟨o',e1⟩:=I.base.there b o e hx
     exact ⟨o',(hs.2 b (j4 (rg (fq e) (I.ok.OA x c XT hc)))).trans e1⟩
   · by_cases hj:j=i
     · subst hj
       rw [hi] at e1; cases e1
       rw [Am hiσ] at e2
       cases e2
       exact ⟨u,r,.inr ⟨.inl hk,c,hc,nY⟩⟩
     · rw [rf (Ne.symm hj)] at e2
       obtain ⟨u',r',q⟩:=hl j y v' e1 e2 e3
       refine ⟨u',r',?_⟩
       rcases q with q | ⟨k,c',e,z'⟩
       · exact .inl q
       · refine .inr ⟨k,c',e,z'.sameBut hs ?_⟩
         rintro rfl
         exact hj (vk hN e1 (I.ok.inj _ _ _ e hc▸hi))
   · by_cases hcc:c'=c
     · subst hcc; exact ⟨_,nY⟩
     · obtain ⟨w2,z2⟩:=I.cell y c' e
       exact ⟨w2,z2.sameBut hs hcc⟩
   · obtain ⟨e,n,ne,nf,d⟩:=I.pin p hp
     refine ⟨(hs.2 p.1 ?_).trans e,n,ne,nf,d⟩
     intro q
     rw [q,hoc] at e
     have q':oc=p.2:=Option.some.inj e
     exact d w' (by rw [← q']; exact Y1)
theorem vm {M:Model} {A:Around} {E:Value→Shared→Prop} {i:Nat} {x:Str} {v:V} {u:Value} {Q:Unit→Shared→Prop} (I:Inv X pins σ H s) (hN:X.N.Nodup) (hi:X.N[i]?=some x) (hx:Loc X.env.scope x) (r:RelV v u)
  (h:∀ s',Inv X pins (σ.set i (some v)) H s'→Q () s') (hf:X.fn x=true∨X.env.scope.names.lookup x=some .local:=by first | exact .inl rfl | exact .inr rfl | assumption):wpAny M A (storeName X.env x u) Q E s :=
 rm I hN hi hx r (fun s' I' _=>h s' I') hf
theorem Inv.Tq {s':Shared} {ch:List Addr} (I:Inv X pins σ H s) (ho:s'.os=s.os) (u:Un (DH X.stack) ch H H' s.heap s'.heap) (cg:j3 X.prog X.w H' s'.heap) (hg:AllBare s'.gens)
  (IH:∀ b∈ch,(b∈X.ex∨X.s₀.heap.objs.size≤b)∧b≠X.env.locals∧(∀ x c,X.env.cells.lookup x=some c→c≠b)∧∀ p∈X.pn ++ pins,p.1≠b):Inv X pins σ H' s':=by
 obtain ⟨h',g',d',t',o'⟩:=s'
 have e:o'=s.os:=ho
 subst e
 exact I.call (g':=g') (t':=t') (d':=d') u cg hg IH
end
abbrev XK:=Value→Option Addr→Hp→Prop
abbrev St:=List (Option V)
abbrev VK:=V→Hp→Prop
abbrev TE:=St→Hp→VK→Prop
abbrev TT:=St→Hp→(Bool→Hp→Prop)→Prop
abbrev TA:=St→Hp→(List V→Hp→Prop)→Prop
structure Ends where
 nx:St→Hp→Prop
 rt:VK
 bk:St→Hp→Prop:=fun _ _=>False
 ct:St→Hp→Prop:=fun _ _=>False
abbrev TS:=Ends→St→Hp→Prop
def EP (X:Cx) (pins:List (Addr×Obj)) (σ:St) (Q:VK) (u:Value) (s':Shared):Prop:=∃ v H',Inv X pins σ H' s'∧RelV v u∧Q v H'
def TP (X:Cx) (pins:List (Addr×Obj)) (σ:St) (Q:Bool→Hp→Prop) (b:Bool) (s':Shared):Prop:=∃ H',Inv X pins σ H' s'∧Q b H'
def AP (X:Cx) (pins:List (Addr×Obj)) (σ:St) (Q:List V→Hp→Prop) (us:List Value) (s':Shared):Prop:=∃ vs H',Inv X pins σ H' s'∧Vals vs us∧Q vs H'
def SP (X:Cx) (pins:List (Addr×Obj)) (D:Ends) (f:Flow) (s':Shared):Prop :=
 match f with
 | .next=>∃ σ' H',Inv X pins σ' H' s'∧D.nx σ' H'
 | .brk=>∃ σ' H',Inv X pins σ' H' s'∧D.bk σ' H'
 | .cont=>∃ σ' H',Inv X pins σ' H' s'∧D.ct σ' H'
 | .ret u=>∃ v σ' H',Inv X pins σ' H' s'∧RelV v u∧D.rt v H'
def PE (X:Cx) (e:Expr) (t:TE):Prop :=
 ∀ (pins:List (Addr×Obj)) (s:Shared) (σ:St) (H:Hp) (Q:VK),Inv X pins σ H s→t σ H Q→wpAny (model X.prog X.w) X.A (eval e X.env) (EP X pins σ Q) X.xe s
def PT (X:Cx) (e:Expr) (t:TT):Prop :=
 ∀ (pins:List (Addr×Obj)) (s:Shared) (σ:St) (H:Hp) (Q:Bool→Hp→Prop),Inv X pins σ H s→t σ H Q→wpAny (model X.prog X.w) X.A (isTrue e X.env (eval e X.env)) (TP X pins σ Q) X.xe s
def PW (X:Cx) (e:Expr) (t:TT):Prop :=
 ∀ (whole:Sem Value) (pins:List (Addr×Obj)) (s:Shared) (σ:St) (H:Hp) (Q:Bool→Hp→Prop),Inv X pins σ H s→t σ H Q→wpAny (model X.prog X.w) X.A (isTrue e X.env whole) (TP X pins σ Q) X.xe s
theorem PW.pt {X:Cx} {e:Expr} {t:TT} (h:PW X e t):PT X e t:=h _
def PA (X:Cx) (es:List Expr) (t:TA):Prop :=
 ∀ (pos:Pos) (pins:List (Addr×Obj)) (s:Shared) (σ:St) (H:Hp) (Q:List V→Hp→Prop),Inv X pins σ H s→t σ H Q→wpAny (model X.prog X.w) X.A (spliced (backTo pos (starEach es X.env))) (AP X pins σ Q) X.xe s
def PS (X:Cx) (st:Stmt) (t:TS):Prop :=
 ∀ (pins:List (Addr×Obj)) (s:Shared) (σ:St) (H:Hp) (D:Ends),Inv X pins σ H s→t D σ H→wpAny (model X.prog X.w) X.A (exec st X.env) (SP X pins D) X.xe s
def gG (X:Cx) (st:List Stmt) (t:TS):Prop :=
 ∀ (pins:List (Addr×Obj)) (s:Shared) (σ:St) (H:Hp) (D:Ends),Inv X pins σ H s→t D σ H→wpAny (model X.prog X.w) X.A (execs st X.env) (SP X pins D) X.xe s
theorem cm {α:Type} {t:Sem α} {Q Q':α→Shared→Prop} {M:Model} {A:Around} {E:Value→Shared→Prop} {s:Shared} (h:wpAny M A t Q E s) (hQ:∀ a s,Q a s→Q' a s):wpAny M A t Q' E s:=wpAny_mono h hQ fun _ _ x=>x
section
variable {X:Cx}
def Tr (i:Nat):TE:=fun σ H Q=>∃ v,σ[i]?=some (some v)∧Q v H
def tC (v:V):TE:=fun _ H Q=>Q v H
theorem bT {i:Nat} {x:Str} {pos:Pos} (hN:X.N[i]?=some x) (hv:j5 X.env.scope x) (hd:ic x:=by decide) (gn:va x:=by decide):PE X (.Name x pos) (Tr i):=by
 intro pins s σ H Q I h
 obtain ⟨v,e,h⟩:=h
 obtain ⟨m,hn,hl⟩:=I.loc
 obtain ⟨u,r,l⟩:=hl i x v hN e hv
 have fin:EP X pins σ Q u s:=⟨v,H,I,r,h⟩
 rcases l with ⟨hk,hm⟩ | ⟨hk,c,hc,MM⟩
 · exact wpAny_Name (wpAny_loadName_local I.ok.kind hk hn hm fin) hd
 · rcases hk with hk | hk
   · exact wpAny_Name (wpAny_loadName_cell I.ok.kind hk hc MM fin) hd
   · exact wpAny_Name (wpAny_loadName_free I.ok.kind hk hc MM fin gn) hd
theorem yb {i j pos}:PE X (.Constant (.int i) j pos) (tC (.int i)):=fun _ _ _ H _ I h=>wpAny_Constant_int ⟨.int i,H,I.tok _,⟨_,rfl⟩,h⟩
theorem Ts {b j pos}:PE X (.Constant (.bool b) j pos) (tC (.bl b)):=fun _ _ _ H _ I h=>Constant_bool ⟨.bl b,H,I,rfl,h⟩
theorem yc {j pos}:PE X (.Constant .none j pos) (tC .aT):=fun _ _ _ H _ I h=>Constant_none ⟨.aT,H,I,rfl,h⟩
theorem OB {x j pos}:PE X (.Constant (.str x) j pos) (tC (.str x)):=fun _ _ _ H _ I h=>Calls.Constant_str ⟨.str x,H,I.tok _,⟨_,rfl⟩,h⟩
def Gl (X:Cx) (x:Str):Prop:=X.env.kindOf x=some .globalImplicit
theorem sF {E:Value→Shared→Prop} {pins:List (Addr×Obj)} {s:Shared} {σ:St} {H:Hp} {x:Str} {u:Value} {pos:Pos} {Q:Value→Shared→Prop} (I:Inv X pins σ H s) (hg:Gl X x) (hm:X.mg x=some u) (h:Q u s)
  (hd:ic x:=by decide):wpAny (model X.prog X.w) X.A (eval (.Name x pos) X.env) Q E s :=
 Calls.Name_function_global I.ok.kind hg (Calls.loadGlobal_global (by rw [I.ok.glob]; exact I.mod.glob.keeps I.bk) hm h) hd
theorem ip {E:Value→Shared→Prop} {pins:List (Addr×Obj)} {s:Shared} {σ:St} {H:Hp} {x:Str} {u:Value} {pos:Pos} {Q:Value→Shared→Prop} (I:Inv X pins σ H s) (hg:Gl X x) (hm:X.mg x=none) (hv:bootBuiltins x=some u) (h:Q u s)
  (hn:x≠"__name__":=by decide) (hd:ic x:=by decide):wpAny (model X.prog X.w) X.A (eval (.Name x pos) X.env) Q E s:=by
 obtain ⟨mb,h1,h2⟩:=I.mod.blt
 exact Calls.Name_function_global I.ok.kind hg (Calls.loadGlobal_builtin (by rw [I.ok.glob]; exact I.mod.glob.keeps I.bk) hm (by rw [I.ok.blt]; exact h1.keeps I.bk) ((h2 x hn).trans hv) h) hd
theorem sG {x:Str} {v:V} {u:Value} {pos:Pos} (hg:Gl X x) (hm:X.mg x=some u) (r:RelV v u) (hd:ic x:=by decide):PE X (.Name x pos) (tC v) :=
 fun _ _ _ H _ I h=>sF I hg hm ⟨v,H,I,r,h⟩ hd
theorem Ja {x:Str} {v:V} {u:Value} {pos:Pos} (hg:Gl X x) (hm:X.mg x=none) (hv:bootBuiltins x=some u) (r:RelV v u) (hn:x≠"__name__":=by decide) (hd:ic x:=by decide):PE X (.Name x pos) (tC v) :=
 fun _ _ _ H _ I h=>ip I hg hm hv ⟨v,H,I,r,h⟩ hn hd
variable {a b:Expr} {ta tb:TE} {pos:Pos}
def tB (t:TE):TT:=fun σ H Q=>t σ H fun x H1=>∃ c,x = .bl c∧Q c H1
theorem OC {e:Expr} {t:TE} (h:PE X e t) (he:∀ whole,isTrue e X.env whole=(do let v ← whole; standAt e.pos; holding [v] (truthy v)):=by intro _; rfl):PT X e (tB t):=by
 intro pins s σ H Q I hw
 refine isTrue_plain (cm (h pins s σ H _ I hw) fun v s1 ⟨x,H1,I1,r1,q1⟩=>?_) (he _)
 obtain ⟨d,rfl,q⟩:=q1
 cases r1
 exact wpAny_truthy_bool ⟨H1,I1,q⟩
variable {tA Tt:TT} {rest:List Expr}
def Y2 (t u:TT):TT:=fun σ H Q=>t σ H fun c H1=>if c=true then u σ H1 Q else Q false H1
def tOr (t u:TT):TT:=fun σ H Q=>t σ H fun c H1=>if c=true then Q true H1 else u σ H1 Q
def Y3 (t:TT):TT:=fun σ H Q=>t σ H fun c H1=>Q (!c) H1
theorem pw_and1 (ha:PT X a tA):PW X (.BoolOp .And [a] pos) tA:=by
 intro wh pins s σ H Q I h
 refine isTrue_and (cm (ha pins s σ H Q I h) fun c s1 e=>?_)
 cases c with
 | true=>exact isTrue_and_nil e
 | false=>exact e
theorem pw_or1 (ha:PT X a tA):PW X (.BoolOp .Or [a] pos) tA:=by
 intro wh pins s σ H Q I h
 refine isTrue_or (cm (ha pins s σ H Q I h) fun c s1 e=>?_)
 cases c with
 | false=>exact isTrue_or_nil e
 | true=>exact e
theorem pw_and (ha:PT X a tA) (hb:PW X (.BoolOp .And (b :: rest) pos) Tt):PW X (.BoolOp .And (a :: b :: rest) pos) (Y2 tA Tt):=by
 intro wh pins s σ H Q I h
 refine isTrue_and (cm (ha pins s σ H _ I h) fun c s1 ⟨H1,I1,q1⟩=>?_)
 cases c with
 | true=>exact hb wh pins s1 σ H1 Q I1 q1
 | false=>exact ⟨H1,I1,q1⟩
theorem pw_or (ha:PT X a tA) (hb:PW X (.BoolOp .Or (b :: rest) pos) Tt):PW X (.BoolOp .Or (a :: b :: rest) pos) (tOr tA Tt):=by
 intro wh pins s σ H Q I h
 refine isTrue_or (cm (ha pins s σ H _ I h) fun c s1 ⟨H1,I1,q1⟩=>?_)
 cases c with
 | true=>exact ⟨H1,I1,q1⟩
 | false=>exact hb wh pins s1 σ H1 Q I1 q1
theorem OD (ha:PT X a tA):PT X (.UnaryOp .Not a pos) (Y3 tA):=by
 intro pins s σ H Q I h
 exact isTrue_not (ha pins s σ H (fun c H1=>Q (!c) H1) I h)
def Tu (ta tb:TE):TE:=fun σ H Q=>ta σ H fun x H1=>∃ c,x = .bl c∧if c=true then tb σ H1 Q else Q (.bl false) H1
def Tv (ta:TE):TE:=fun σ H Q=>ta σ H fun x H1=>∃ c,x = .bl c∧Q (.bl (!c)) H1
theorem OE {op} {t:TE} (h:PE X a t):PE X (.BoolOp op [a] pos) t:=fun pins s σ H Q I hw=>BoolOp_one (h pins s σ H Q I hw)
theorem OF (ha:PE X a ta) (hb:PE X (.BoolOp .And (b :: rest) pos) tb):PE X (.BoolOp .And (a :: b :: rest) pos) (Tu ta tb):=by
 intro pins s σ H Q I h
 refine BoolOp_and (cm (ha pins s σ H _ I h) fun v s1 ⟨x,H1,I1,r1,q1⟩=>?_)
 obtain ⟨c,rfl,q1⟩:=q1
 cases r1
 refine wpAny_truthy_bool ?_
 cases c with
 | true=>exact hb pins s1 σ H1 Q I1 q1
 | false=>exact ⟨.bl false,H1,I1,rfl,q1⟩
theorem OG (ha:PE X a ta):PE X (.UnaryOp .Not a pos) (Tv ta):=by
 intro pins s σ H Q I h
 refine UnaryOp_ (cm (ha pins s σ H _ I h) fun v s1 ⟨x,H1,I1,r1,q1⟩=>?_)
 obtain ⟨c,rfl,q1⟩:=q1
 cases r1
 exact not_of (wpAny_truthy_bool ⟨.bl (!c),H1,I1,rfl,q1⟩)
def tIf (t:TT) (ta tb:TE):TE:=fun σ H Q=>t σ H fun c H1=>if c=true then ta σ H1 Q else tb σ H1 Q
theorem Ea {c:Expr} (hc:PT X c tA) (ha:PE X a ta) (hb:PE X b tb):PE X (.IfExp c a b pos) (tIf tA ta tb):=by
 intro pins s σ H Q I h
 refine wpAny_IfExp (cm (hc pins s σ H _ I h) fun d s1 ⟨H1,I1,q1⟩=>?_)
 cases d with
 | true=>exact ha pins s1 σ H1 Q I1 q1
 | false=>exact hb pins s1 σ H1 Q I1 q1
end
def fA (K:KFr) (H:Hp) (a:Addr) (xs:List V):Prop :=
 Rd H a (.lst xs) ∨
  ∃ (o:Obj) (aP:Array Value) (n:Nat),K.lookup a=some o∧o.cls = .type "list"∧o.dict=none∧o.data = .seq aP n∧aP.size≤sizeLine∧Vals xs aP.toList
def dG (K:KFr) (H:Hp) (a:Addr) (xs:List V):Prop :=
 Rd H a (.tup xs) ∨
  ∃ (o:Obj) (aP:Array Value) (n:Nat),K.lookup a=some o∧o.cls = .type "tuple"∧o.data = .seq aP n∧aP.size≤sizeLine∧Vals xs aP.toList
def Y4:Value→Option V
 | .none=>some .aT
 | .bool b=>some (.bl b)
 | .int i _=>some (.int i)
 | .str x _=>some (.str x)
 | .bytes b _=>some (.YQ b)
 | .float b _=>some (.YR b)
 | .ref a=>some (.ref a)
 | .type n=>some (.ty n)
 | _=>none
theorem RelV.abs {x:V} {u:Value} (r:RelV x u):Y4 u=some x:=by
 cases x with
 | aT=>cases r; rfl
 | bl _=>cases r; rfl
 | ref _=>cases r; rfl
 | ty _=>cases r; rfl
 | _=>obtain ⟨t,rfl⟩:=r; rfl
theorem RelV.inj {x y:V} {u:Value} (r:RelV x u) (q:RelV y u):x=y:=Option.some.inj (r.abs.symm.trans q.abs)
theorem Vals.inj:∀ {xs ys:List V} {us:List Value},Vals xs us→Vals ys us→xs=ys
 | _,_,_,.nil,.nil=>rfl
 | _,_,_,.cons r t,.cons r' t'=>by rw [r.inj r',Vals.inj t t']
section
variable {X:Cx} {pins:List (Addr×Obj)} {σ:St} {H:Hp} {s:Shared} {a:Addr} {xs ys:List V}
theorem fA.of {K:KFr} (h:H a=some (.lst xs)):fA K H a xs:=.inl (.inl h)
theorem dG.of {K:KFr} (h:H a=some (.tup xs)):dG K H a xs:=.inl (.inl h)
theorem Inv.list (I:Inv X pins σ H s) (h:fA X.K H a xs):∃ aP:List Value,Vals xs aP∧PlainL s.heap a aP.toArray∧xs.length≤sizeLine:=by
 rcases h with h | ⟨o,aP,n,hk,hc,hd,hs,hz,r⟩
 · obtain ⟨z,aP,n,r,e⟩:=h.ok I.cg
   exact ⟨aP,r,⟨_,n,e,rfl,rfl,rfl⟩,z⟩
 · refine ⟨aP.toList,r,⟨o,n,I.qk a o hk,hc,hd,by simpa using hs⟩,?_⟩
   have e:=r.length
   simp only [Sz] at e
   omega
theorem Inv.tuple (I:Inv X pins σ H s) (h:dG X.K H a xs):∃ aP:List Value,Vals xs aP∧IsTup s.heap a aP.toArray∧xs.length≤sizeLine:=by
 rcases h with h | ⟨o,aP,n,hk,hc,hs,hz,r⟩
 · obtain ⟨z,aP,r,p⟩:=h.ok I.cg
   exact ⟨aP,r,p,z⟩
 · refine ⟨aP.toList,r,⟨o,I.qk a o hk,hc,n,by simpa using hs⟩,?_⟩
   have e:=r.length
   simp only [Sz] at e
   omega
theorem Inv.j7 (I:Inv X pins σ H s) (h:fA X.K H a xs) (h':fA X.K H a ys):xs=ys:=by
 obtain ⟨aP,r,⟨o,n,e,_,_,d⟩,_⟩:=I.list h
 obtain ⟨its',r',⟨o',n',e',_,_,d'⟩,_⟩:=I.list h'
 rw [e] at e'; cases e'
 rw [d] at d'
 injection d' with d1 _
 have:aP=its':=by simpa using congrArg Array.toList d1
 subst this
 exact r.inj r'
theorem Inv.i6 (I:Inv X pins σ H s) (h:dG X.K H a xs) (h':dG X.K H a ys):xs=ys:=by
 obtain ⟨aP,r,⟨o,e,_,n,d⟩,_⟩:=I.tuple h
 obtain ⟨its',r',⟨o',e',_,n',d'⟩,_⟩:=I.tuple h'
 rw [e] at e'; cases e'
 rw [d] at d'
 injection d' with d1 _
 have:aP=its':=by simpa using congrArg Array.toList d1
 subst this
 exact r.inj r'
end
abbrev Cx.ql (X:Cx) (E:Value→Shared→Prop):Cx:={ X with xe:=E }
abbrev Cx.nZ (X:Cx):Cx:=X.ql fun _ _=>False
theorem Cx.Ok.ql {X:Cx} (ok:X.Ok) (E:Value→Shared→Prop):(X.ql E).Ok :=
 ⟨ok.mod,ok.kind,ok.glob,ok.blt,ok.above,ok.inj,ok.has,ok.OA,ok.hd,ok.frames,ok.SH,ok.XR,ok.bs,ok.DI,ok.x_,ok.BH,ok.j6,ok.I9⟩
theorem Cx.Ok.k4 {X:Cx} {E:Value→Shared→Prop} (ok:(X.ql E).Ok):X.Ok :=
 ⟨ok.mod,ok.kind,ok.glob,ok.blt,ok.above,ok.inj,ok.has,ok.OA,ok.hd,ok.frames,ok.SH,ok.XR,ok.bs,ok.DI,ok.x_,ok.BH,ok.j6,ok.I9⟩
section
variable {X:Cx} {pins:List (Addr×Obj)} {σ:St} {H:Hp} {s:Shared} {E:Value→Shared→Prop}
theorem Inv.ql (I:Inv X pins σ H s) (E:Value→Shared→Prop):Inv (X.ql E) pins σ H s:=⟨I.ok.ql E,I.os,I.bare,I.base,I.loc,I.cell,I.free,I.gm,I.pin,I.cg,I.len⟩
theorem Inv.k4 (I:Inv (X.ql E) pins σ H s):Inv X pins σ H s:=⟨I.ok.k4,I.os,I.bare,I.base,I.loc,I.cell,I.free,I.gm,I.pin,I.cg,I.len⟩
theorem SP.k4 {D:Ends} {f:Flow} {s':Shared} (h:SP (X.ql E) pins D f s'):SP X pins D f s':=by
 cases f with
 | ret u=>obtain ⟨v,σ',H',I,r,q⟩:=h; exact ⟨v,σ',H',I.k4,r,q⟩
 | _=>obtain ⟨σ',H',I,q⟩:=h; exact ⟨σ',H',I.k4,q⟩
theorem gG.nZ {st:List Stmt} {t:TS} (h:gG X.nZ st t):gG X st t:=fun pins s σ H D I hw =>
 wpAny_mono (h pins s σ H D (I.ql _) hw) (fun _ _ q=>q.k4) fun _ _ z=>False.elim z
end
section
variable {X:Cx} {st:Stmt} {rest:List Stmt} {t u:TS} {e:Expr} {te:TE} {pos:Pos}
def Tw:TS:=fun D σ H=>D.nx σ H
def Y5 (t u:TS):TS:=fun D σ H=>t { D with nx:=u D } σ H
theorem Au:gG X [] Tw:=fun _ _ σ H _ I h=>wpAny_execs_nil ⟨σ,H,I,h⟩
theorem bR (h1:PS X st t) (h2:gG X rest u):gG X (st :: rest) (Y5 t u):=by
 intro pins s σ H D I h
 refine wpAny_execs_cons (cm (h1 pins s σ H { D with nx:=u D } I h) fun f s1 q=>?_)
 cases f with
 | next =>
   obtain ⟨σ',H',I',q⟩:=q
   exact h2 pins s1 σ' H' D I' q
 | ret v=>exact q
 | _=>exact q
theorem i7 (h1:PS X st t):gG X [st] t:=by
 intro pins s σ H D I h
 refine wpAny_execs_cons (cm (h1 pins s σ H D I h) fun f s1 q=>?_)
 cases f with
 | next=>exact wpAny_execs_nil q
 | ret v=>exact q
 | _=>exact q
theorem Inv.quiet {pins:List (Addr×Obj)} {σ:St} {H:Hp} {s:Shared} (I:Inv X pins σ H s):interactive X.env=false:=by simp [interactive,I.ok.kind]
def Tx (te:TE):TS:=fun D σ H=>te σ H fun _ H1=>D.nx σ H1
theorem i8 (he:PE X e te) (hs:swapsWith e none pos.line X.env=pure false:=by rfl):PS X (.Expr e pos) (Tx te):=by
 intro pins s σ H D I h
 exact wpAny_Expr_any (cm (he pins s σ H _ I h) fun v s1 ⟨x,H1,I1,r1,q1⟩=>⟨σ,H1,I1,q1⟩) I.quiet hs
def Y6 (te:TE):TS:=fun D σ H=>te σ H D.rt
theorem sI (he:PE X e te):PS X (.Return (some e) pos) (Y6 te):=by
 intro pins s σ H D I h
 exact wpAny_Return_some (cm (he pins s σ H _ I h) fun v s1 ⟨x,H1,I1,r1,q1⟩=>⟨x,σ,H1,I1,r1,q1⟩)
def Y7 (c:TT) (t u:TS):TS:=fun D σ H=>c σ H fun b H1=>if b=true then t D σ H1 else u D σ H1
theorem Eb {c:Expr} {a b:List Stmt} {tc:TT} (hc:PT X c tc) (ha:gG X a t) (hb:gG X b u):PS X (.If c a b pos) (Y7 tc t u):=by
 intro pins s σ H D I h
 refine wpAny_If (cm (hc pins s σ H _ I h) fun d s1 ⟨H1,I1,q1⟩=>?_)
 cases d with
 | true=>exact ha pins s1 σ H1 D I1 q1
 | false=>exact hb pins s1 σ H1 D I1 q1
end
abbrev TG:=V→St→Hp→(St→Hp→Prop)→Prop
abbrev Jb:=List V→St→Hp→(St→Hp→Prop)→Prop
def PG (X:Cx) (target:Expr) (t:TG):Prop :=
 ∀ (pins:List (Addr×Obj)) (s:Shared) (σ:St) (H:Hp) (v:V) (u:Value) (Q:St→Hp→Prop),Inv X pins σ H s→RelV v u→t v σ H Q →
  wpAny (model X.prog X.w) X.A (assign target X.env u) (fun _ s'=>∃ σ' H',Inv X pins σ' H' s'∧Q σ' H') X.xe s
def Ec (X:Cx) (ts:List Expr) (t:Jb):Prop :=
 ∀ (pins:List (Addr×Obj)) (s:Shared) (σ:St) (H:Hp) (vs:List V) (us:List Value) (Q:St→Hp→Prop),Inv X pins σ H s→Vals vs us→t vs σ H Q →
  wpAny (model X.prog X.w) X.A (assignInOrder ((assignEach ts X.env).map (·.2)) us) (fun _ s'=>∃ σ' H',Inv X pins σ' H' s'∧Q σ' H') X.xe s
abbrev OH:=V→V→V→Hp→(Hp→Prop)→Prop
def Tz (X:Cx) (t:OH):Prop :=
 ∀ (pins:List (Addr×Obj)) (s:Shared) (σ:St) (H:Hp) (o i v:V) (ov iv u:Value) (Q:Hp→Prop),Inv X pins σ H s→RelV o ov→RelV i iv→RelV v u→t o i v H Q →
  wpAny (model X.prog X.w) X.A (setItem ov iv u) (fun _ s'=>∃ H',Inv X pins σ H' s'∧Q H') X.xe s
section
variable {X:Cx} {pos:Pos}
def jx (i:Nat):TG:=fun v σ H Q=>Q (σ.set i (some v)) H
theorem Jc {i:Nat} {x:Str} (hN:X.N.Nodup) (hi:X.N[i]?=some x) (hx:Loc X.env.scope x) (hf:X.fn x=true∨X.env.scope.names.lookup x=some .local:=by first | exact .inl rfl | exact .inr rfl | assumption):PG X (.Name x pos) (jx i):=by
 intro pins s σ H v u Q I r h
 exact wpAny_assign_Name (vm I hN hi hx r (fun s' I'=>⟨_,H,I',h⟩) hf)
def Y8:Jb:=fun vs σ H Q=>vs=[]∧Q σ H
def TB (t:TG) (u:Jb):Jb:=fun vs σ H Q=>∃ v r,vs=v :: r∧t v σ H fun σ' H'=>u r σ' H' Q
theorem Jd:Ec X [] Y8:=by
 intro pins s σ H vs us Q I r h
 obtain ⟨e,h⟩:=h
 subst e
 cases r
 exact assignInOrder_nil ⟨σ,H,I,h⟩
theorem Ed {e:Expr} {es:List Expr} {t:TG} {u:Jb} (h1:PG X e t) (h2:Ec X es u)
  (hs:(assignEach (e :: es) X.env).map (·.2)=assign e X.env :: (assignEach es X.env).map (·.2):=by rfl):Ec X (e :: es) (TB t u):=by
 intro pins s σ H vs us Q I r h
 obtain ⟨v,vr,e1,h⟩:=h
 subst e1
 cases r with
 | cons r rr =>
   rw [hs]
   refine assignInOrder_cons (cm (h1 pins s σ H _ _ _ I r h) fun _ s1 ⟨σ1,H1,I1,q1⟩=>?_)
   exact h2 pins s1 σ1 H1 _ _ Q I1 rr q1
def Y9 (K:KFr) (n:Nat) (t:Jb):TG:=fun v σ H Q=>∃ a xs,v = .ref a∧dG K H a xs∧xs.length=n∧t xs σ H Q
theorem OI {es:List Expr} {k:Nat} {t:Jb} {n:Nat} (hc:X.calm=true) (h:Ec X es t)
  (hn:(assignEach es X.env).length=n:=by rfl) (Y_:(assignEach es X.env).findIdx? (·.1)=none:=by rfl):PG X (.Tuple es k pos) (Y9 X.K n t):=by
 intro pins s σ H v u Q I r hw
 obtain ⟨a,xs,e1,hq,hl,hw⟩:=hw
 subst e1
 cases r
 obtain ⟨aP,rv,ht,hz⟩:=I.tuple hq
 refine assign_Tuple_tuple (I.ok.hd hc) ht (by simp [hn,← hl,rv.length]) Y_ fun h' hx=>?_
 have I1:Inv X pins σ H { s with heap:=h' }:=I.kept (t':=s.toks) fun b o e=>hx b o (j4 (fq e)) e
 exact h pins _ σ H xs _ Q I1 (by simpa using rv) hw
def Y' (to ti:TE) (t:OH):TG:=fun v σ H Q=>to σ H fun o H1=>ti σ H1 fun i H2=>t o i v H2 fun H3=>Q σ H3
theorem OJ {o i:Expr} {to ti:TE} {t:OH} (ho:PE X o to) (hi:PE X i ti) (hs:Tz X t)
  (ha:∀ v,assign (.Subscript o i pos) X.env v=(do
    let ov ← holding [v] (eval o X.env)
    let iv ← holding [v,ov] (eval i X.env)
    standAt pos
    holding [v,ov,iv] (setItem ov iv v)
    release [v,ov,iv] []):=by intro _; rfl):PG X (.Subscript o i pos) (Y' to ti t):=by
 intro pins s σ H v u Q I r h
 rw [ha]
 refine wpAny_bind (wpAny_holding (cm (ho pins s σ H _ I h) fun ov s1 ⟨x,H1,I1,r1,q1⟩=>?_))
 refine wpAny_bind (wpAny_holding (cm (hi pins s1 σ H1 _ I1 q1) fun iv s2 ⟨y,H2,I2,r2,q2⟩=>?_))
 refine wpAny_bind (wpAny_standAt (wpAny_bind (wpAny_holding (cm (hs pins s2 σ H2 x y v ov iv u _ I2 r1 r2 r q2) fun _ s3 ⟨H3,I3,q3⟩=>?_))))
 exact wpAny_release ⟨σ,H3,I3,q3⟩
def Je (te:TE) (g:TG):TS:=fun D σ H=>te σ H fun x H1=>g x σ H1 D.nx
theorem OK {tg e:Expr} {te:TE} {g:TG} (he:PE X e te) (hg:PG X tg g) (hs:swapsWithSole [tg] e pos.line X.env=pure false:=by rfl) (hw:swappedStores [tg] e X.env=pure none:=by rfl)
  (h1:(assignEach [tg] X.env).map (·.2)=[assign tg X.env]:=by rfl):PS X (.Assign [tg] e pos) (Je te g):=by
 intro pins s σ H D I h
 refine wpAny_Assign_stores (cm (he pins s σ H _ I h) fun v s1 ⟨x,H1,I1,r1,q1⟩=>?_) hs hw
 rw [h1]
 exact cm (hg pins s1 σ H1 x v _ I1 r1 q1) fun _ s2 q=>q
theorem n_ {i:Nat} {x:Str} {e:Expr} {te:TE} {pos':Pos} (hN:X.N.Nodup) (hi:X.N[i]?=some x) (hx:Loc X.env.scope x) (he:PE X e te) (hs:swapsWith e (some (.Name x pos')) pos.line X.env=pure false:=by rfl) (hf:X.fn x=true∨X.env.scope.names.lookup x=some .local:=by first | exact .inl rfl | exact .inr rfl | assumption) :
  PS X (.Assign [.Name x pos'] e pos) (Je te (jx i)):=by
 intro pins s σ H D I h
 refine wpAny_Assign_Name (cm (he pins s σ H _ I h) fun v s1 ⟨y,H1,I1,r1,q1⟩=>?_) hs
 exact vm I1 hN hi hx r1 (fun s2 I2=>⟨_,H1,I2,q1⟩) hf
end
section
variable {X:Cx} {pos:Pos}
def OL (c:TT) (tb:TS):TS:=fun D σ H=>∃ W:Nat→St→Hp→Prop,(∃ m,W m σ H)∧∀ m σ H,W m σ H →
 c σ H fun b H1=>if b=true then ∃ N:St→Hp→Prop,(∀ σ' H',N σ' H'→∃ m',m' < m∧W m' σ' H')∧tb { D with nx:=N,ct:=N,bk:=D.nx } σ H1 else D.nx σ H1
theorem Ee {c:Expr} {body:List Stmt} {tc:TT} {tb:TS} (hp:PassesOwn (model X.prog X.w) X.A X.env X.xe) (hc:PT X c tc) (hb:gG X body tb):PS X (.While c body [] pos) (OL tc tb):=by
 intro pins s σ H D I h
 obtain ⟨W,⟨m0,w0⟩,turn⟩:=h
 refine wpAny_While (codeAny_whileLoop (fun n s'=>∃ σ' H',Inv X pins σ' H' s'∧W n σ' H') ?_ m0 ⟨σ,H,I,w0⟩)
 rintro n s1 ⟨σ1,H1,I1,w1⟩
 refine wpAny_passesOwn hp (cm (hc pins s1 σ1 H1 _ I1 (turn n σ1 H1 w1)) fun b s2 ⟨H2,I2,q2⟩=>?_)
 cases b with
 | true =>
   obtain ⟨N,hN,q2⟩:=q2
   rw [if_pos rfl]
   refine wpAny_passesOwn hp (cm (hb pins s2 σ1 H2 _ I2 q2) fun f s3 q3=>?_)
   cases f with
   | next =>
     obtain ⟨σ3,H3,I3,n3⟩:=q3
     obtain ⟨m',hm,w3⟩:=hN σ3 H3 n3
     exact ⟨m',hm,σ3,H3,I3,w3⟩
   | cont =>
     obtain ⟨σ3,H3,I3,n3⟩:=q3
     obtain ⟨m',hm,w3⟩:=hN σ3 H3 n3
     exact ⟨m',hm,σ3,H3,I3,w3⟩
   | brk=>exact q3
   | ret v=>exact q3
 | false =>
   rw [if_neg eC]
   exact wpAny_execs_nil ⟨σ1,H2,I2,q2⟩
end
structure It where
 go:Nat→Hp→Prop
 TC:Nat→Hp→V→Hp→Prop
 stop:Nat→Hp→Prop
def k5 (X:Cx) (pins:List (Addr×Obj)) (H:Hp) (b:Addr):Prop :=
 H b=none∧b≠X.env.locals∧b∉X.fs∧(b∈X.ex∨X.s₀.heap.objs.size≤b)∧(∀ x c,X.env.cells.lookup x=some c→c≠b)∧∀ p∈X.pn ++ pins,p.1≠b
theorem Inv.m4 {X:Cx} {pins:List (Addr×Obj)} {σ:St} {H H':Hp} {s:Shared} {b:Addr} (I:Inv X pins σ H s) (hb:s.heap.objs.size≤b) (hn:H' b=none):k5 X pins H' b:=by
 refine ⟨hn,BC (rg I.lt hb),I.YX hb,.inr (k0 I.sz hb),fun x c e z=>?_,fun p hp z=>?_⟩
 · obtain ⟨v,q⟩:=I.cell x c e
   exact absurd (rg q.lt (by rw [z]; exact hb)) (DG _)
 · exact absurd (rg (fq (I.pin p hp).1) (by rw [z]; exact hb)) (DG _)
structure Turn (P:Program) (w:World) (K:KFr) (tg:Expr) (J:It) (fp:List Addr) (it:Addr) (tn:Nat→Heap→Prop):Prop where
 mem:it∈fp
 obj:∀ i h,tn i h→∀ b∈fp,∃ o,h.get? b=some o∧∀ v,o.data≠.cell v
 keep:∀ i h h',tn i h→(∀ b∈fp,∀ o,h.get? b=some o→h'.get? b=some o)→tn i h'
 item:∀ (X:Cx),X.prog=P→X.w=w→X.K=K→X.calm=true→∀ (i:Nat) (pins:List (Addr×Obj)) (s:Shared) (σ:St) (H:Hp) (E:Value→Shared→Prop),Inv X pins σ H s→(∀ b∈fp,k5 X pins H b)→tn i s.heap→J.go i H →
  wpAny (model P w) X.A (pyNext (.ref it)) (fun r s1=>∃ u,r=some u ∧
   wpAny (model P w) X.A (letOwnedTupleGo tg (.ref it) u) (fun _ s2=>∃ x H',Inv X pins σ H' s2∧RelV x u∧J.TC i H x H'∧tn (i+1) s2.heap∧∀ b∈fp,H' b=none) E s1) E s
 done:∀ (X:Cx),X.prog=P→X.w=w→X.K=K→X.calm=true→∀ (i:Nat) (pins:List (Addr×Obj)) (s:Shared) (σ:St) (H:Hp) (E:Value→Shared→Prop),Inv X pins σ H s→(∀ b∈fp,k5 X pins H b)→tn i s.heap→J.stop i H →
  wpAny (model P w) X.A (pyNext (.ref it)) (fun r s1=>r=none∧Inv X pins σ H s1) E s
 self:∀ (A:Around) (i:Nat) (s:Shared) (Q:Value→Shared→Prop) (E:Value→Shared→Prop),tn i s.heap→Q (.ref it) s→wpAny (model P w) A (pyIter (.ref it)) Q E s
abbrev TI:=St→Hp→(It→Hp→Prop)→Prop
def PIE (X:Cx) (pins:List (Addr×Obj)) (σ:St) (tg:Expr) (R:It→Hp→Prop) (XU:Value) (s2:Shared):Prop :=
 ∃ (it:Addr) (fp:List Addr) (tn:Nat→Heap→Prop) (J:It) (H':Hp),XU = .ref it∧Inv X pins σ H' s2∧Turn X.prog X.w X.K tg J fp it tn∧tn 0 s2.heap∧(∀ b∈fp,k5 X pins H' b)∧R J H'
def PI (X:Cx) (tg iter:Expr) (wi:TI):Prop :=
 ∀ (pins:List (Addr×Obj)) (s:Shared) (σ:St) (H:Hp) (R:It→Hp→Prop),Inv X pins σ H s→wi σ H R →
  wpAny (model X.prog X.w) X.A (eval iter X.env) (fun v s1=>wpAny (model X.prog X.w) X.A (pyIter v) (PIE X pins σ tg R) X.xe s1) X.xe s
theorem Av {M:Model} {A:Around} {E:Value→Shared→Prop} {s:Shared} {tg:Expr} {it:Addr} {u:Value} {o:Obj} {n:String} {vs:Array Value} {Q:Unit→Shared→Prop} (ho:s.heap.get? it=some o) (hc:o.cls = .type n) (hd:o.data = .fields vs)
  (hn:["enumerate","zip","dict_itemiterator","dict_reverseitemiterator","odict_iterator","itertools.zip_longest","itertools.pairwise"].contains n=false) (hQ:Q () s):wpAny M A (letOwnedTupleGo tg (.ref it) u) Q E s:=by
 unfold letOwnedTupleGo
 cases tg <;> first
  | exact wpAny_pure hQ
  | (cases u <;> first
      | exact wpAny_pure hQ
      | (refine wpAny_bind (wpAny_load ho ?_)
         rw [hc,hd]
         show wpAny M A (if (["enumerate","zip","dict_itemiterator","dict_reverseitemiterator","odict_iterator","itertools.zip_longest","itertools.pairwise"].contains n && vs[0]? == some (rawInt _))=true then _ else _) Q E s
         rw [if_neg (by intro h; rw [hn,Bool.false_and] at h; cases h)]
         exact wpAny_pure hQ))
def Za (K:KFr) (a:Addr):It :=
 ⟨fun i H=>∃ xs x,fA K H a xs∧xs[i]?=some x,fun i H x H'=>H'=H∧∀ xs,fA K H a xs→xs[i]?=some x,fun i H=>∃ xs,fA K H a xs∧xs.length≤i⟩
def Zb (K:KFr) (a:Addr):It :=
 ⟨fun i H=>∃ xs x,dG K H a xs∧xs[i]?=some x,fun i H x H'=>H'=H∧∀ xs,dG K H a xs→xs[i]?=some x,fun i H=>∃ xs,dG K H a xs∧xs.length≤i⟩
def TF (lo:Int) (n:Nat):It:=⟨fun i _=>i < n,fun i H x H'=>H'=H∧x = .int (lo+i),fun i _=>n≤i⟩
theorem BI {P:Program} {w:World} {K:KFr} {tg:Expr} (a it:Addr):Turn P w K tg (Za K a) [it] it (fun i h=>h.IsListIter it a i) where
 mem:=by simp
 obj:=fun i h st b hb=>by
  have e:b=it:=by simpa using hb
  subst e
  obtain ⟨o,e,c,d⟩:=st
  exact ⟨o,e,fun v z=>by rw [d] at z; cases z⟩
 keep:=fun i h h' st k=>st.at fun o e=>k it (by simp) o e
 item:=by
  intro X hP hw hK hc i pins s σ H E I hf st hg
  subst hP hw hK
  obtain ⟨xs,x,hq,hx⟩:=hg
  obtain ⟨aP,rv,p,hz⟩:=I.list hq
  obtain ⟨u,hu,ru⟩:=rv.get hx
  obtain ⟨f0,f1,f2,f3,f4,f5⟩:=hf it (by simp)
  refine wpAny_pyNext_list_item st p.isList (x:=u) (by simpa using hu) fun h' yd sb=>?_
  have I1:Inv X pins σ H { s with heap:=h' }:=I.turned (t':=s.toks) (fun b o hb e=>(sb.2 b hb).trans e) f0 f1 f3 f4 f5
  obtain ⟨o,e,c,d⟩:=id yd
  exact ⟨u,rfl,Av (s:={ s with heap:=h' }) e c d (by decide) ⟨x,H,I1,ru,⟨rfl,fun ys hy=>by rw [I.j7 hy hq]; exact hx⟩,yd,fun b hb=>(hf b hb).1⟩⟩
 done:=by
  intro X hP hw hK hc i pins s σ H E I hf st hg
  subst hP hw hK
  obtain ⟨xs,hq,hx⟩:=hg
  obtain ⟨aP,rv,p,hz⟩:=I.list hq
  obtain ⟨f0,f1,f2,f3,f4,f5⟩:=hf it (by simp)
  have hl:=rv.length
  exact wpAny_pyNext_list_end (I.ok.hd hc) st p.isList (by simp; omega) fun h' eb=>⟨rfl,I.turned (t':=s.toks) (fun b o hb e=>eb b o hb e) f0 f1 f3 f4 f5⟩
 self:=fun _ _ _ _ _ st h=>wpAny_pyIter_listiter st h
theorem ye {P:Program} {w:World} {K:KFr} {tg:Expr} (a it:Addr):Turn P w K tg (Zb K a) [it] it (fun i h=>h.IsTupleIter it a i) where
 mem:=by simp
 obj:=fun i h st b hb=>by
  have e:b=it:=by simpa using hb
  subst e
  obtain ⟨o,e,c,d⟩:=st
  exact ⟨o,e,fun v z=>by rw [d] at z; cases z⟩
 keep:=fun i h h' st k=>st.at fun o e=>k it (by simp) o e
 item:=by
  intro X hP hw hK hc i pins s σ H E I hf st hg
  subst hP hw hK
  obtain ⟨xs,x,hq,hx⟩:=hg
  obtain ⟨aP,rv,p,hz⟩:=I.tuple hq
  obtain ⟨u,hu,ru⟩:=rv.get hx
  obtain ⟨f0,f1,f2,f3,f4,f5⟩:=hf it (by simp)
  refine wpAny_pyNext_tuple_item st (show s.heap.IsTuple a aP.toArray from p) (x:=u) (by simpa using hu) fun h' yd sb=>?_
  have I1:Inv X pins σ H { s with heap:=h' }:=I.turned (t':=s.toks) (fun b o hb e=>(sb.2 b hb).trans e) f0 f1 f3 f4 f5
  obtain ⟨o,e,c,d⟩:=id yd
  exact ⟨u,rfl,Av (s:={ s with heap:=h' }) e c d (by decide) ⟨x,H,I1,ru,⟨rfl,fun ys hy=>by rw [I.i6 hy hq]; exact hx⟩,yd,fun b hb=>(hf b hb).1⟩⟩
 done:=by
  intro X hP hw hK hc i pins s σ H E I hf st hg
  subst hP hw hK
  obtain ⟨xs,hq,hx⟩:=hg
  obtain ⟨aP,rv,p,hz⟩:=I.tuple hq
  obtain ⟨f0,f1,f2,f3,f4,f5⟩:=hf it (by simp)
  have hl:=rv.length
  exact wpAny_pyNext_tuple_end (I.ok.hd hc) st (show s.heap.IsTuple a aP.toArray from p) (by simp; omega) fun h' eb=>⟨rfl,I.turned (t':=s.toks) (fun b o hb e=>eb b o hb e) f0 f1 f3 f4 f5⟩
 self:=fun _ _ _ _ _ st h=>wpAny_pyIter_tupleiter st h
theorem yf {P:Program} {w:World} {K:KFr} {tg:Expr} (it:Addr) (lo:Int) (n:Nat):Turn P w K tg (TF lo n) [it] it (fun i h=>IsRangeIter h it (lo+(i:Nat) * 1) ((n:Int) - (i:Nat)) 1) where
 mem:=by simp
 obj:=fun i h st b hb=>by
  have e:b=it:=by simpa using hb
  subst e
  exact ⟨_,st,fun v z=>by
   have z':Data.fields _=Data.cell v:=z
   cases z'⟩
 keep:=fun i h h' st k=>k it (by simp) _ st
 item:=by
  intro X hP hw hK hc i pins s σ H E I hf st hg
  subst hP hw hK
  obtain ⟨f0,f1,f2,f3,f4,f5⟩:=hf it (by simp)
  have W:=Walks.range (prog:=X.prog) (w:=X.w) (I.ok.hd hc) it lo 1 n
  refine W.item i s _ _ hg st fun v h' tk hv yd kk=>?_
  obtain ⟨t,rfl⟩:=hv
  have I1:Inv X pins σ H { s with heap:=h',toks:=tk }:=I.turned (fun b o hb e=>kk b o (by simpa using hb) e) f0 f1 f3 f4 f5
  refine ⟨_,rfl,Av (s:={ s with heap:=h',toks:=tk }) (n:="range_iterator") yd rfl rfl (by decide) ⟨.int (lo+i),H,I1,⟨t,?_⟩,⟨rfl,rfl⟩,yd,fun b hb=>(hf b hb).1⟩⟩
  rw [Int.mul_one]
 done:=by
  intro X hP hw hK hc i pins s σ H E I hf st hg
  subst hP hw hK
  obtain ⟨f0,f1,f2,f3,f4,f5⟩:=hf it (by simp)
  exact wpAny_pyNext_range_end (I.ok.hd hc) st (by have:n≤i:=hg; omega) fun h' eb=>⟨rfl,I.turned (t':=s.toks) (fun b o hb e=>eb b o hb e) f0 f1 f3 f4 f5⟩
 self:=fun _ _ _ _ _ st h=>wpAny_pyIter_rangeiter st h
section
variable {X:Cx} {tg:Expr}
theorem vn {pins:List (Addr×Obj)} {σ:St} {H:Hp} {s:Shared} {R:It→Hp→Prop} {E:Value→Shared→Prop} {lo hi:Int} {t u v:Tok} {tk:Nat} (I:Inv X pins σ H s) (h1 : -(2 ^ 62)≤lo) (h2:lo < 2 ^ 62) (h3 : -(2 ^ 62)≤hi) (h4:hi < 2 ^ 62)
  (q:R (TF lo (hi - lo).toNat) H):wpAny (model X.prog X.w) X.A (pyIter (.ref s.heap.objs.size)) (PIE X pins σ tg R) E { s with heap:=s.heap.push { cls:=.type "range",data:=.fields #[.int lo t,.int hi u,.int 1 v] },toks:=tk }:=by
 refine wpAny_pyIter_range (IsRange.new ..) (small_one h1 h2 h3 h4) ?_
 have I1:Inv X pins σ H { s with heap:=s.heap.push { cls:=.type "range",data:=.fields #[.int lo t,.int hi u,.int 1 v] },toks:=tk }:=I.kept fun b o e=>fH _ e
 refine ⟨(s.heap.push { cls:=.type "range",data:=.fields #[.int lo t,.int hi u,.int 1 v] }).objs.size,[(s.heap.push { cls:=.type "range",data:=.fields #[.int lo t,.int hi u,.int 1 v] }).objs.size],_,_,H,rfl,
  I1.kept (t':=tk) fun b o e=>fH _ e,yf _ lo (hi - lo).toNat,?_,fun b hb=>?_,q⟩
 · have e1:lo+((0:Nat):Int) * 1=lo:=by simp
   have e2:(((hi - lo).toNat:Nat):Int) - ((0:Nat):Int)=Builtin.Range.rangeSize lo hi 1:=by rw [rangeSize_one]; split <;> omega
   show IsRangeIter _ _ (lo+((0:Nat):Int) * 1) ((((hi - lo).toNat:Nat):Int) - ((0:Nat):Int)) 1
   rw [e1,e2]
   exact mZ _ rfl
 · have e:b=(s.heap.push { cls:=.type "range",data:=.fields #[.int lo t,.int hi u,.int 1 v] }).objs.size:=by simpa using hb
   subst e
   exact I1.m4 (dm _) (I1.cg.fresh (dm _))
def TH (ta:TA):TI:=fun σ H R=>ta σ H fun vs H1=>∃ j:Int,vs=[.int j]∧-(2 ^ 62)≤j∧j < 2 ^ 62∧R (TF 0 j.toNat) H1
def TJ (ta:TA):TI:=fun σ H R=>ta σ H fun vs H1=>∃ i j:Int,vs=[.int i,.int j]∧(-(2 ^ 62)≤i∧i < 2 ^ 62∧-(2 ^ 62)≤j∧j < 2 ^ 62)∧R (TF i (j - i).toNat) H1
theorem BJ {a:Expr} {ta:TA} {p pos:Pos} (hg:Gl X "range") (hm:X.mg "range" = none) (ha:PA X [a] ta) (hs:starEach [a] X.env=[(false,eval a X.env)]:=by rfl):PI X tg (.Call (.Name "range" p) [a] [] pos) (TH ta):=by
 intro pins s σ H R I h
 refine Call_ (ip I hg hm boot_range (Sw (cm (ha pos pins s σ H _ I h) fun us s1 ⟨vs,H1,I1,r1,q1⟩=>?_) hs rfl))
 obtain ⟨j,e,q1,q2,q⟩:=q1
 subst e
 cases r1 with
 | cons r rr =>
   cases rr
   obtain ⟨t,rfl⟩:=r
   exact call_range_1 (vn I1 (by omega) (by omega) q1 q2 (by simpa using q))
theorem BK {a b:Expr} {ta:TA} {p pos:Pos} (hg:Gl X "range") (hm:X.mg "range" = none) (ha:PA X [a,b] ta) (hs:starEach [a,b] X.env=[(false,eval a X.env),(false,eval b X.env)]:=by rfl) (rn:starEach [b] X.env=[(false,eval b X.env)]:=by rfl) :
  PI X tg (.Call (.Name "range" p) [a,b] [] pos) (TJ ta):=by
 intro pins s σ H R I h
 refine Call_ (ip I hg hm boot_range (Sw (cm (ha pos pins s σ H _ I h) fun us s1 ⟨vs,H1,I1,r1,q1⟩=>?_) (by rw [hs,rn]) (by rw [rn]; rfl)))
 obtain ⟨i,j,e,⟨q1,q2,q3,q4⟩,q⟩:=q1
 subst e
 cases r1 with
 | cons r rr =>
   cases rr with
   | cons r' rr =>
     cases rr
     obtain ⟨t,rfl⟩:=r
     obtain ⟨t',rfl⟩:=r'
     exact call_range_2 (vn I1 q1 q2 q3 q4 q)
def Zd (wi:TI) (g:TG) (tb:TS):TS:=fun D σ H=>wi σ H fun J H1=>∃ W:Nat→Nat→St→Hp→Prop,(∃ m,W 0 m σ H1)∧∀ i m σ H,W i m σ H →
 (J.stop i H∧D.nx σ H)∨(J.go i H∧∃ N:St→Hp→Prop,(∀ σ' H',N σ' H'→∃ m',m' < m∧W (i+1) m' σ' H')∧∀ x H',J.TC i H x H'→g x σ H' fun σ2 H2=>tb { D with nx:=N,ct:=N,bk:=D.nx } σ2 H2)
def oa (fp:List Addr) (h:Heap):List (Addr×Obj):=fp.filterMap fun b=>(h.get? b).map fun o=>(b,o)
theorem gM {fp:List Addr} {h:Heap} {b:Addr} {o:Obj} (hb:b∈fp) (e:h.get? b=some o):(b,o)∈oa fp h:=List.mem_filterMap.mpr ⟨b,hb,by rw [e]; rfl⟩
theorem BL {fp:List Addr} {h:Heap} {p:Addr×Obj} (hp:p∈oa fp h):p.1∈fp∧h.get? p.1=some p.2:=by
 obtain ⟨b,hb,e⟩:=List.mem_filterMap.mp hp
 cases q:h.get? b with
 | none=>rw [q] at e; cases e
 | some o =>
   rw [q] at e
   have e':(b,o)=p:=Option.some.inj e
   subst e'
   exact ⟨hb,q⟩
theorem Inv.pinned {pins:List (Addr×Obj)} {σ:St} {H:Hp} {s:Shared} {fp:List Addr} (I:Inv X pins σ H s) (hf:∀ b∈fp,k5 X pins H b) (ho:∀ b∈fp,∃ o,s.heap.get? b=some o∧∀ v,o.data≠.cell v):Inv X (pins ++ oa fp s.heap) σ H s :=
 I.Ar fun p hp=>(cA.mp hp).elim (fun z=>I.pin p (bO _ z)) fun z=>by
  obtain ⟨hb,e⟩:=BL z
  obtain ⟨f0,f1,f2,_⟩:=hf p.1 hb
  obtain ⟨o,e',d⟩:=ho p.1 hb
  rw [e] at e'; cases e'
  exact ⟨e,f0,f1,f2,d⟩
theorem Inv.j8 {pins pl:List (Addr×Obj)} {σ:St} {H:Hp} {s:Shared} (I:Inv X (pins ++ pl) σ H s):Inv X pins σ H s:=I.Ar fun p hp=>I.pin p (bO _ (cq _ hp))
theorem OM {iter:Expr} {body:List Stmt} {wi:TI} {g:TG} {tb:TS} {pos:Pos} (hp:PassesOwn (model X.prog X.w) X.A X.env X.xe) (hc:X.calm=true) (hi:PI X tg iter wi) (hg:PG X tg g) (hb:gG X body tb)
  (hs:∀ x,foldedSetIterable iter X.env x=pure x:=by intro _; rfl):PS X (.For tg iter body [] pos) (Zd wi g tb):=by
 intro pins s σ H D I h
 refine wpAny_For (cm (hi pins s σ H _ I h) fun v s1 h1=>cm h1 fun XU s2 h2=>?_) hs
 obtain ⟨it,fp,tn,J,H2,e,I2,T,vo,f2,W,⟨m0,w0⟩,turn⟩:=h2
 subst e
 have ON:∀ {H':Hp},(∀ b∈fp,H' b=none)→∀ b∈fp,k5 X pins H' b:=fun hn b hb=>⟨hn b hb,(f2 b hb).2⟩
 refine codeAny_forLoop_any (fun n s'=>∃ i σ' H',Inv X pins σ' H' s'∧tn i s'.heap∧(∀ b∈fp,H' b=none)∧W i n σ' H') ?_ m0 ⟨0,σ,H2,I2,vo,fun b hb=>(f2 b hb).1,w0⟩
 rintro n s3 ⟨i,σ3,H3,I3,TK,TL,w3⟩
 rcases turn i n σ3 H3 w3 with ⟨stop,qn⟩ | ⟨go,N,hN,step⟩
 · refine wpAny_passesOwn hp (cm (T.done X rfl rfl rfl hc i pins s3 σ3 H3 X.xe I3 (ON TL) TK stop) fun r s4 ⟨hr,I4⟩=>?_)
   subst hr
   exact wpAny_execs_nil ⟨σ3,H3,I4,qn⟩
 · refine wpAny_passesOwn hp (cm (T.item X rfl rfl rfl hc i pins s3 σ3 H3 X.xe I3 (ON TL) TK go) fun r s4 ⟨u,hr,h4⟩=>?_)
   subst hr
   refine wpAny_passesOwn hp (cm h4 fun _ s5 ⟨x,H5,I5,r5,y5,OQ,Ze⟩=>?_)
   have I5':=I5.pinned (ON Ze) (T.obj _ _ OQ)
   refine wpAny_passesOwn hp (cm (hg _ s5 σ3 H5 x u _ I5' r5 (step x H5 y5)) fun _ s6 ⟨σ6,H6,I6,q6⟩=>?_)
   refine wpAny_passesOwn hp (cm (hb _ s6 σ6 H6 _ I6 q6) fun f s7 q7=>?_)
   have again:∀ {σ7:St} {H7:Hp},Inv X (pins ++ oa fp s5.heap) σ7 H7 s7→N σ7 H7→∃ m,m < n∧∃ i σ' H',Inv X pins σ' H' s7∧tn i s7.heap∧(∀ b∈fp,H' b=none)∧W i m σ' H':=fun {σ7 H7} I7 n7=>by
    obtain ⟨m',hm,w7⟩:=hN σ7 H7 n7
    refine ⟨m',hm,i+1,σ7,H7,I7.j8,T.keep _ _ _ OQ fun b hb o e=>(I7.pin (b,o) (bO _ (bO _ (gM hb e)))).1,fun b hb=>?_,w7⟩
    obtain ⟨o,e,d⟩:=T.obj _ _ OQ b hb
    exact (I7.pin (b,o) (bO _ (bO _ (gM hb e)))).2.1
   cases f with
   | brk=>obtain ⟨σ7,H7,I7,q7⟩:=q7; exact ⟨σ7,H7,I7.j8,q7⟩
   | ret v=>obtain ⟨x7,σ7,H7,I7,r7,q7⟩:=q7; exact ⟨x7,σ7,H7,I7.j8,r7,q7⟩
   | _=>obtain ⟨σ7,H7,I7,n7⟩:=q7; exact again I7 n7
end
abbrev R2:=V→V→Hp→VK→Prop
def fu (X:Cx) (f:Value→Value→Sem Value) (r:R2):Prop :=
 ∀ (pins:List (Addr×Obj)) (s:Shared) (σ:St) (H:Hp) (x y:V) (v u:Value) (Q:VK),Inv X pins σ H s→RelV x v→RelV y u→r x y H Q →
  wpAny (model X.prog X.w) X.A (f v u) (EP X pins σ Q) X.xe s
def Zf (X:Cx) (f:Value→Sem Value) (r:V→Hp→VK→Prop):Prop :=
 ∀ (pins:List (Addr×Obj)) (s:Shared) (σ:St) (H:Hp) (x:V) (v:Value) (Q:VK),Inv X pins σ H s→RelV x v→r x H Q →
  wpAny (model X.prog X.w) X.A (f v) (EP X pins σ Q) X.xe s
def dA (X:Cx) (f:Value) (r:List V→Hp→VK→Prop):Prop :=
 ∀ (pins:List (Addr×Obj)) (s:Shared) (σ:St) (H:Hp) (xs:List V) (us:List Value) (Q:VK),Inv X pins σ H s→Vals xs us→r xs H Q →
  wpAny (model X.prog X.w) X.A (call f us) (EP X pins σ Q) X.xe s
def TM (r:R2) (ta tb:TE):TE:=fun σ H Q=>ta σ H fun x H1=>tb σ H1 fun y H2=>r x y H2 Q
def tUn (r:V→Hp→VK→Prop) (ta:TE):TE:=fun σ H Q=>ta σ H fun x H1=>r x H1 Q
def rI (C:Int→Int→Prop) (g:Int→Int→V):R2:=fun x y H Q=>∃ i j,x = .int i∧y = .int j∧C i j∧Q (g i j) H
def vq (g:Int→Int→V):R2:=fun x y H Q=>∃ i j,x = .int i∧y = .int j∧Q (g i j) H
def rU (g:Int→V):V→Hp→VK→Prop:=fun x H Q=>∃ i,x = .int i∧Q (g i) H
section
variable {X:Cx} {a b c:Expr} {ta tb tc:TE} {pos:Pos}
theorem OR (ha:PE X a ta) (hb:PE X b tb) {pins:List (Addr×Obj)} {s:Shared} {σ:St} {H:Hp} {R:V→V→Hp→Prop} (I:Inv X pins σ H s)
  (h:ta σ H fun x H1=>tb σ H1 fun y H2=>R x y H2) {Q:Value→Shared→Prop} {f:Value→Value→Sem Value}
  (hf:∀ v u s2 x y H2,Inv X pins σ H2 s2→RelV x v→RelV y u→R x y H2→wpAny (model X.prog X.w) X.A (f v u) Q X.xe s2) :
  wpAny (model X.prog X.w) X.A (eval a X.env) (fun v s₁=>wpAny (model X.prog X.w) X.A (eval b X.env) (fun u s₂=>wpAny (model X.prog X.w) X.A (f v u) Q X.xe s₂) X.xe s₁) X.xe s:=by
 refine cm (ha pins s σ H _ I h) fun v s1 ⟨x,H1,I1,r1,q1⟩=>?_
 refine cm (hb pins s1 σ H1 _ I1 q1) fun u s2 ⟨y,H2,I2,r2,q2⟩=>?_
 exact hf v u s2 x y H2 I2 r1 r2 q2
theorem MN {op:Operator} {r:R2} (ho:fu X (binaryOp op) r) (ha:PE X a ta) (hb:PE X b tb):PE X (.BinOp a op b pos) (TM r ta tb):=by
 intro pins s σ H Q I h
 exact wpAny_BinOp (OR ha hb I h fun v u s2 x y H2 I2 rx ry q=>ho pins s2 σ H2 x y v u Q I2 rx ry q)
theorem MO {op:UnaryOp} {r:V→Hp→VK→Prop} (ho:Zf X (unaryOp op) r) (ha:PE X a ta):PE X (.UnaryOp op a pos) (tUn r ta):=by
 intro pins s σ H Q I h
 exact UnaryOp_ (cm (ha pins s σ H _ I h) fun v s1 ⟨x,H1,I1,r1,q1⟩=>ho pins s1 σ H1 x v Q I1 r1 q1)
theorem MP {f:Value→Value→Sem Value} {C:Int→Int→Prop} {g:Int→Int→Int}
  (rule:∀ (i j:Int) (t u:Tok) (s:Shared) (Q:Value→Shared→Prop) (E:Value→Shared→Prop),C i j→Q (.int (g i j) s.toks) { s with toks:=s.toks+1 }→wpAny (model X.prog X.w) X.A (f (.int i t) (.int j u)) Q E s) :
  fu X f (rI C fun i j=>.int (g i j)):=by
 intro pins s σ H x y v u Q I rx ry h
 obtain ⟨i,j,rfl,rfl,hc,q⟩:=h
 obtain ⟨t,rfl⟩:=rx
 obtain ⟨t',rfl⟩:=ry
 exact rule i j t t' s _ _ hc ⟨.int (g i j),H,I.tok _,⟨_,rfl⟩,q⟩
theorem TN {f:Value→Value→Sem Value} {g:Int→Int→Int}
  (rule:∀ (i j:Int) (t u:Tok) (s:Shared) (Q:Value→Shared→Prop) (E:Value→Shared→Prop),Q (.int (g i j) s.toks) { s with toks:=s.toks+1 }→wpAny (model X.prog X.w) X.A (f (.int i t) (.int j u)) Q E s) :
  fu X f (vq fun i j=>.int (g i j)):=by
 intro pins s σ H x y v u Q I rx ry h
 obtain ⟨i,j,rfl,rfl,q⟩:=h
 obtain ⟨t,rfl⟩:=rx
 obtain ⟨t',rfl⟩:=ry
 exact rule i j t t' s _ _ ⟨.int (g i j),H,I.tok _,⟨_,rfl⟩,q⟩
theorem Jf {f:Value→Value→Sem Value} {g:Int→Int→Bool}
  (rule:∀ (i j:Int) (t u:Tok) (s:Shared) (Q:Value→Shared→Prop) (E:Value→Shared→Prop),Q (.bool (g i j)) s→wpAny (model X.prog X.w) X.A (f (.int i t) (.int j u)) Q E s) :
  fu X f (vq fun i j=>.bl (g i j)):=by
 intro pins s σ H x y v u Q I rx ry h
 obtain ⟨i,j,rfl,rfl,q⟩:=h
 obtain ⟨t,rfl⟩:=rx
 obtain ⟨t',rfl⟩:=ry
 exact rule i j t t' s _ _ ⟨.bl (g i j),H,I,rfl,q⟩
def TQ (i j:Int):Prop:=0 < j∧j < 1073741824
def TR (i j:Int):Prop:=0≤j∧j≤1000000∧i.natAbs < 2 ^ 64
def Ef (i j:Int):Prop:=(-(2 ^ 64) < i∧i < 2 ^ 64)∨(-(2 ^ 64) < j∧j < 2 ^ 64)
theorem Ef.ok {i j:Int} (h:Ef i j):IntMulOk i j:=by
 rcases h with ⟨h1,h2⟩ | ⟨h1,h2⟩
 · exact .of_left (intBits_le_64 h1 h2)
 · exact .of_right (intBits_le_64 h1 h2)
theorem OS:fu X (binaryOp .Add) (vq fun i j=>.int (i+j)):=TN fun _ _ _ _ _ _ _ q=>add_int q
theorem OT:fu X (binaryOp .Sub) (vq fun i j=>.int (i - j)):=TN fun _ _ _ _ _ _ _ q=>sub_int q
theorem OU:fu X (binaryOp .Mult) (rI Ef fun i j=>.int (i * j)):=MP fun _ _ _ _ _ _ _ hc q=>mul_int q hc.ok
theorem Jg:fu X (binaryOp .FloorDiv) (rI TQ fun i j=>.int (i / j)):=MP fun i j _ _ _ _ _ hc q=>by
 have h1:(0:Int) < j:=hc.1
 have h2:j < 1073741824:=hc.2
 exact floordiv_int (by omega) (by rw [Int.fdiv_eq_ediv_of_nonneg i (by omega)]; exact q) (.inl (PyProof.noPylong_small (by omega)))
theorem OW:fu X (binaryOp .Mod) (rI (fun _ j=>0 < j) fun i j=>.int (i % j)):=MP fun i j _ _ _ _ _ hc q=>by
 have h1:(0:Int) < j:=hc
 exact mod_int' (by omega) (by rw [Int.fmod_eq_emod_of_nonneg i (by omega)]; exact q)
theorem OX:fu X (binaryOp .Pow) (rI TR fun i j=>.int (i ^ j.toNat)):=MP fun _ _ _ _ _ _ _ hc q=>pow_int_small hc.1 hc.2.1 hc.2.2 q
theorem unI {f:Value→Sem Value} {g:Int→Int}
  (rule:∀ (i:Int) (t:Tok) (s:Shared) (Q:Value→Shared→Prop) (E:Value→Shared→Prop),Q (.int (g i) s.toks) { s with toks:=s.toks+1 }→wpAny (model X.prog X.w) X.A (f (.int i t)) Q E s) :
  Zf X f (rU fun i=>.int (g i)):=by
 intro pins s σ H x v Q I rx h
 obtain ⟨i,rfl,q⟩:=h
 obtain ⟨t,rfl⟩:=rx
 exact rule i t s _ _ ⟨.int (g i),H,I.tok _,⟨_,rfl⟩,q⟩
theorem Eg:Zf X (unaryOp .USub) (rU fun i=>.int (-i)):=unI fun _ _ _ _ _ q=>neg_int q
end
section
variable {X:Cx} {a b c:Expr} {ta tb tc:TE} {pos:Pos}
theorem yg {pins:List (Addr×Obj)} {σ:St} {H:Hp} {s:Shared} {Q:VK} {k k':Bool} (I:Inv X pins σ H s) (q:Q (.bl k) H) (e:k=k'):EP X pins σ Q (.bool k') s:=by
 subst e
 exact ⟨.bl k,H,I,rfl,q⟩
theorem MQ:fu X (compareOp .Lt) (vq fun i j=>.bl (decide (i < j))):=Jf fun _ _ _ _ _ _ _ q=>lt_int q
theorem MT:fu X (compareOp .LtE) (vq fun i j=>.bl (decide (i≤j))):=Jf fun _ _ _ _ _ _ _ q=>le_int q
theorem TU:fu X (compareOp .Gt) (vq fun i j=>.bl (decide (j < i))):=Jf fun _ _ _ _ _ _ _ q=>gt_int q
theorem TV:fu X (compareOp .GtE) (vq fun i j=>.bl (decide (j≤i))):=Jf fun _ _ _ _ _ _ _ q=>ge_int q
theorem BM:fu X (compareOp .In) (fun x y H Q=>∃ i j,x = .str i∧y = .str j∧Q (.bl (!(Builtin.Str.occurrences j i 0 j.length 1).isEmpty)) H):=by
 intro pins s σ H x y v u Q I rx ry h
 obtain ⟨i,j,rfl,rfl,q⟩:=h
 obtain ⟨t,rfl⟩:=rx
 obtain ⟨t',rfl⟩:=ry
 exact in_str (yg I q rfl)
theorem OY:fu X (compareOp .Is) (fun x y H Q=>y = .aT∧Q (.bl (decide (x = .aT))) H):=by
 intro pins s σ H x y v u Q I rx ry h
 obtain ⟨rfl,q⟩:=h
 cases ry
 refine is_none_gen (yg I q ?_)
 cases x <;> first
  | (cases rx; rfl)
  | (obtain ⟨t,rfl⟩:=rx; rfl)
theorem Jh:fu X (compareOp .IsNot) (fun x y H Q=>y = .aT∧Q (.bl (!decide (x = .aT))) H):=by
 intro pins s σ H x y v u Q I rx ry h
 obtain ⟨rfl,q⟩:=h
 cases ry
 refine isnot_none_gen (yg I q ?_)
 cases x <;> first
  | (cases rx; rfl)
  | (obtain ⟨t,rfl⟩:=rx; rfl)
theorem fu.or {f:Value→Value→Sem Value} {r r':R2} (h:fu X f r) (h':fu X f r'):fu X f (fun x y H Q=>r x y H Q∨r' x y H Q):=by
 intro pins s σ H x y v u Q I rx ry q
 rcases q with q | q
 · exact h pins s σ H x y v u Q I rx ry q
 · exact h' pins s σ H x y v u Q I rx ry q
theorem gN (b:Expr) {op:CmpOp} (h:op≠.In:=by decide) (h2:op≠.NotIn:=by decide):behindInMarks op b=false:=by
 have e1:(op == CmpOp.In)=false:=by cases op <;> first | rfl | exact absurd rfl h
 have e2:(op == CmpOp.NotIn)=false:=by cases op <;> first | rfl | exact absurd rfl h2
 cases b <;> simp [behindInMarks,e1,e2]
theorem Ji {op:CmpOp} {r:R2} (ho:fu X (compareOp op) r) (ha:PE X a ta) (hb:PE X b tb) (hm:behindInMarks op b=false):PE X (.Compare a [op] [b] pos) (TM r ta tb):=by
 intro pins s σ H Q I h
 exact wpAny_Compare1 (OR ha hb I h fun v u s2 x y H2 I2 rx ry q=>ho pins s2 σ H2 x y v u Q I2 rx ry q) hm
def MV (t:TE):TT:=fun σ H Q=>t σ H fun x H'=>∃ k,x = .bl k∧Q k H'
theorem Jj {op:CmpOp} {r:R2} (ho:fu X (compareOp op) r) (ha:PE X a ta) (hb:PE X b tb) (hm:behindInMarks op b=false):PT X (.Compare a [op] [b] pos) (MV (TM r ta tb)):=by
 intro pins s σ H Q I h
 refine wpAny_isTrue_Compare1 (cm (ha pins s σ H _ I h) fun v s1 ⟨x,H1,I1,r1,q1⟩=>cm (hb pins s1 σ H1 _ I1 q1) fun u s2 ⟨y,H2,I2,r2,q2⟩ =>
  cm (ho pins s2 σ H2 x y v u _ I2 r1 r2 q2) fun c s3 ⟨z,H3,I3,r3,k,e,q3⟩=>?_) hm
 subst e
 cases r3
 exact wpAny_truthy_bool ⟨H3,I3,q3⟩
def Eh (r r':R2) (ta tb tc:TE):TE:=fun σ H Q=>ta σ H fun x H1=>tb σ H1 fun y H2=>r x y H2 fun z H3=>∃ k,z = .bl k ∧
 (if k=true then tc σ H3 fun w' H4=>r' y w' H4 Q else Q (.bl false) H3)
theorem Ei {op OZ:CmpOp} {r r':R2} (ho:fu X (compareOp op) r) (nX:fu X (compareOp OZ) r') (ha:PE X a ta) (hb:PE X b tb) (hc:PE X c tc)
  (hm:lastMarks [op,OZ] [b,c]=false:=by with_unfolding_all rfl):PT X (.Compare a [op,OZ] [b,c] pos) (MV (Eh r r' ta tb tc)):=by
 intro pins s σ H Q I h
 refine isTrue_chain (cm (ha pins s σ H _ I h) fun v s1 ⟨x,H1,I1,r1,q1⟩=>test_link (cm (hb pins s1 σ H1 _ I1 q1) fun u s2 ⟨y,H2,I2,r2,q2⟩ =>
  cm (ho pins s2 σ H2 x y v u _ I2 r1 r2 q2) fun d s3 ⟨z,H3,I3,r3,k,e,q3⟩=>?_)) hm
 subst e
 cases r3
 refine wpAny_truthy_bool ?_
 cases k with
 | false =>
   obtain ⟨k',e',q'⟩:=q3
   cases e'
   exact ite_ff ⟨H3,I3,q'⟩
 | true =>
   refine ite_tt (test_last (cm (hc pins s3 σ H3 _ I3 q3) fun w' s4 ⟨z',H4,I4,r4,q4⟩=>cm (nX pins s4 σ H4 y z' u w' _ I4 r2 r4 q4) fun d' s5 ⟨z2,H5,I5,r5,k2,e2,q5⟩=>?_))
   subst e2
   cases r5
   exact wpAny_truthy_bool ⟨H5,I5,q5⟩
theorem k6:(sizeLine:Nat) < 2 ^ 63:=by rw [sizeLine_eq]; decide
theorem yh:fu X (binaryOp .Add) (fun x y H Q=>∃ i j,x = .str i∧y = .str j∧i.length+j.length≤sizeLine∧Q (.str (i ++ j)) H):=by
 intro pins s σ H x y v u Q I rx ry h
 obtain ⟨i,j,rfl,rfl,hz,q⟩:=h
 obtain ⟨t,rfl⟩:=rx
 obtain ⟨t',rfl⟩:=ry
 exact add_str (fun t' tk=>⟨.str (i ++ j),H,I.tok _,⟨_,rfl⟩,q⟩) hz
theorem vals1 {x:V} {us:List Value} (r:Vals [x] us):∃ u,us=[u]∧RelV x u:=by
 cases r with
 | cons r1 r2=>cases r2; exact ⟨_,rfl,r1⟩
theorem vals2 {x y:V} {us:List Value} (r:Vals [x,y] us):∃ u w',us=[u,w']∧RelV x u∧RelV y w':=by
 cases r with
 | cons r1 r2 =>
   cases r2 with
   | cons r3 r4=>cases r4; exact ⟨_,_,rfl,r1,r3⟩
theorem rp:dA X (.type "int") (fun xs H Q=>(∃ i,xs=[.int i]∧Q (.int i) H)∨∃ k,xs=[.bl k]∧Q (.int (if k then 1 else 0)) H):=by
 intro pins s σ H xs us Q I r h
 rcases h with ⟨i,rfl,q⟩ | ⟨k,rfl,q⟩
 · obtain ⟨u,rfl,t,rfl⟩:=vals1 r
   exact call_int_int ⟨.int i,H,I,⟨_,rfl⟩,q⟩
 · obtain ⟨u,rfl,r1⟩:=vals1 r
   cases r1
   exact call_int_bool ⟨.int (if k then 1 else 0),H,I.tok _,⟨_,rfl⟩,q⟩
end
structure BN (h:Heap) (x dx C:Addr) (mA:Str→Option Value):Prop where
 obj:h.get? x=some (PySem.W.instObj C dx)
 ns:h.Ns1 dx mA
 ne:dx≠x
theorem BO {h:Heap} {dx:Addr} {mA:Str→Option Value} (n:h.Ns1 dx mA):∃ od,h.get? dx=some od∧∀ name,PySem.W.lookIn name od=some (mA name):=by
 obtain ⟨o,es,ep,ho,hd,hk,_,hm⟩:=n
 refine ⟨o,ho,fun name=>?_⟩
 have e:=hm name
 unfold nsFind findBy at e
 rw [← Array.find?_toList] at e
 unfold PySem.W.lookIn
 rw [hd]
 dsimp only
 split
 · rename_i y q
   rw [q] at e
   exact congrArg some e
 · rename_i q
   rw [q] at e
   have a:es.toList.any (·.refKey)=false:=by
    rw [List.any_eq_false]
    intro y hy
    obtain ⟨z,t,Zg⟩:=hk y (Array.mem_toList_iff.mp hy)
    simp [DictEntry.refKey,Zg]
   have a':¬ es.toList.any (·.refKey)=true:=by rw [a]; exact eC
   rw [if_neg a']
   exact congrArg some e
theorem BN.look {h:Heap} {x dx C:Addr} {mA:Str→Option Value} (I:BN h x dx C mA):∃ od,PySem.W.InstAt h x (PySem.W.instObj C dx) C (some od)∧∀ name,PySem.W.lookIn name od=some (mA name) :=
 let ⟨od,ho,hl⟩:=BO I.ns
 ⟨od,⟨I.obj,rfl,rfl,ho⟩,hl⟩
section
variable {prog:Program} {w:World} {A:Around} {E:Value→Shared→Prop} {s:Shared} {K:KFr} {x dx C f:Addr} {mA:Str→Option Value} {name:Str} {v:Value}
theorem get_map {expr:Bool} {Q:Value→Shared→Prop} (X:K.In s.heap) (I:BN s.heap x dx C mA) (hg:PySem.W.plainGet K C name=true) (hh:PySem.W.hasDictIn K C=true)
  (ha:PySem.W.findIn K (.ref C) name=some none) (hv:mA name=some v) (vt:PySem.W.handedIn v=true) (h:Q v { s with toks:=s.toks+1 }) :
  wpAny (model prog w) A (getAttr (.ref x) name expr) Q E s:=by
 obtain ⟨od,J,hl⟩:=I.look
 exact PySem.W.get_value X J (PySem.W.plainGet_of hg).1 (PySem.W.findObj_own hh ha rfl (by rw [hl,hv])) vt h
theorem Jk {ns:List Str} {Q:Unit→Shared→Prop} (X:K.In s.heap) (I:BN s.heap x dx C mA)
  (hs:PySem.W.findIn K (.ref C) "__setattr__" = some (some (.builtin "object.__setattr__"))) (hp:PySem.W.plainOver K C=true) (ht:PySem.W.takerIn K C name=some none) (hh:PySem.W.hasDictIn K C=true)
  (hw:PySem.Within mA ns) (hsz:ns.length≤sizeLine)
  (h:∀ h',BN h' x dx C (fun y=>if y=name then some v else mA y)→Heap.SameBut dx s.heap h'→Q () { s with heap:=h',toks:=s.toks+2 }) :
  wpAny (model prog w) A (setAttr (.ref x) name v) Q E s:=by
 obtain ⟨od,J,hl⟩:=I.look
 refine PySem.W.set_plain X J hs (PySem.W.osa_open (s:={ s with toks:=s.toks+1 }) (r:=none) X J hp ht fun b=>?_)
 obtain ⟨cd,hc,Tp⟩:=PySem.W.any_some hh
 have hx:s.heap.get? x=some ⟨.ref C,some dx,.plain,#[]⟩:=I.obj
 refine wpAny_bind (wpAny_pure (wpAny_bind (wpAny_bind (wpAny_loadPart hx (wpAny_bind (PySem.W.Looks.here (s:={ s with toks:=s.toks+1 }) (PySem.W.looks_clsIn X hc) ?_))))))
 rw [Tp]
 refine wpAny_pure (a:=some dx) (wpAny_bind (wpAny_pure (wpAny_bind ?_)))
 refine wpAny_nsSet1 (s:={ s with toks:=s.toks+1 }) I.ns fun h' hn2 rn=>?_
 obtain ⟨oD,esD,epD,hoD,hdD,hcD⟩:=hn2.count (PySem.Within.cons name v hw)
 refine wpAny_bind (wpAny_lookBehind hoD (by rw [hdD]; exact pastItsLine_dict (k0 hcD (by rw [vb]; omega))) ?_)
 exact wpAny_pure (h _ ⟨(rn.2 _ (Ne.symm I.ne)).trans I.obj,hn2,I.ne⟩ rn)
theorem Ej {R:Result→Shared→Prop} {vs:List Value} {kw:List (Str×Value)} (X:K.In s.heap) (hm:PySem.W.makesIn K C=true)
  (hi:PySem.W.findIn K (.ref C) "__init__" = some (some (.ref f))) (hf:PySem.W.typeIn K (.ref f)=some (.type "function"))
  (h:codeAny (model prog w) (A.under (.builtin "type.__call__" ⟨.ref C :: vs,kw⟩)) (.call (.ref f) ⟨.ref (s.heap.objs.size+1) :: vs,kw⟩) (PySem.W.InitBack (s.heap.objs.size+1) R)
    { s with heap:=(s.heap.push PySem.W.emptyDict).push (PySem.W.instObj C s.heap.objs.size) }) :
  codeAny (model prog w) A (.call (.ref C) ⟨vs,kw⟩) R s:=by
 obtain ⟨hh,g,d,t,os⟩:=s
 exact PySem.W.make_core (PySem.W.makes_of X hm) (PySem.W.looks_findIn X hi) (fun self=>PySem.W.bind_fn X self hf) (.inl rfl) h
end
def dv (f:Str) (v:V):List (Str×V)→List (Str×V)
 | []=>[(f,v)]
 | (g,x) :: r=>if g=f then (g,v) :: r else (g,x) :: dv f v r
theorem mB (f g:Str) (v:V):∀ fs:List (Str×V),(dv f v fs).lookup g=if g=f then some v else fs.lookup g
 | []=>by
   show List.lookup g [(f,v)]=_
   by_cases h:g=f
   · have hb:(g == f)=true:=beq_iff_eq.mpr h
     simp only [List.lookup,hb,if_pos h]
   · have hb:(g == f)=false:=beq_eq_false_iff_ne.mpr h
     simp only [List.lookup,hb,if_neg h]
 | (k,x) :: r=>by
   have ih:=mB f g v r
   rw [show dv f v ((k,x) :: r)=(if k=f then (k,v) :: r else (k,x) :: dv f v r) from rfl]
   by_cases hk:k=f
   · rw [if_pos hk]
     by_cases h:g=k
     · have hb:(g == k)=true:=beq_iff_eq.mpr h
       simp only [List.lookup,hb,if_pos (h.trans hk)]
     · have hb:(g == k)=false:=beq_eq_false_iff_ne.mpr h
       simp only [List.lookup,hb,if_neg (fun e:g=f=>h (e.trans hk.symm))]
   · rw [if_neg hk]
     by_cases h:g=k
     · have hb:(g == k)=true:=beq_iff_eq.mpr h
       simp only [List.lookup,hb,if_neg (fun e:g=f=>hk (h.symm.trans e))]
     · have hb:(g == k)=false:=beq_eq_false_iff_ne.mpr h
       simp only [List.lookup,hb]
       exact ih
theorem k7 (f:Str) (v:V):∀ fs:List (Str×V),f∈(dv f v fs).map (·.1)∧∀ g,g∈fs.map (·.1)→g∈(dv f v fs).map (·.1)
 | []=>⟨by simp [dv],fun g h=>by simp at h⟩
 | (k,x) :: r=>by
   obtain ⟨i1,i2⟩:=k7 f v r
   rw [show dv f v ((k,x) :: r)=(if k=f then (k,v) :: r else (k,x) :: dv f v r) from rfl]
   by_cases hk:k=f
   · rw [if_pos hk]
     subst hk
     exact ⟨by simp,fun g h=>by simpa using h⟩
   · rw [if_neg hk]
     refine ⟨?_,fun g h=>?_⟩
     · rw [i5]
       exact eB _ i1
     · rw [i5] at h ⊢
       rcases cY.mp h with e | e
       · exact cY.mpr (.inl e)
       · exact eB _ (i2 g e)
theorem mC (f:Str) (v:V):∀ fs:List (Str×V),(dv f v fs).length≤fs.length+1
 | []=>by simp [dv]
 | (k,x) :: r=>by
   have ih:=mC f v r
   rw [show dv f v ((k,x) :: r)=(if k=f then (k,v) :: r else (k,x) :: dv f v r) from rfl]
   by_cases hk:k=f
   · rw [if_pos hk,vb,vb]; omega
   · rw [if_neg hk,vb,vb]; omega
theorem jq.some_of {v:V} {o:Option Value} (r:jq (some v) o):∃ u,o=some u∧RelV v u:=by
 cases o with
 | none=>exact (show False from r).elim
 | some u=>exact ⟨u,rfl,r⟩
theorem BP {v:V} {u:Value} (r:RelV v u):PySem.W.handedIn u=true:=by
 cases v with
 | aT=>cases (show u=Value.none from r); rfl
 | bl b=>cases (show u=Value.bool b from r); rfl
 | int i=>obtain ⟨t,e⟩:=(show ∃ t,u=Value.int i t from r); cases e; rfl
 | str x=>obtain ⟨t,e⟩:=(show ∃ t,u=Value.str x t from r); cases e; rfl
 | YQ b=>obtain ⟨t,e⟩:=(show ∃ t,u=Value.bytes b t from r); cases e; rfl
 | YR b=>obtain ⟨t,e⟩:=(show ∃ t,u=Value.float b t from r); cases e; rfl
 | ref a=>cases (show u=Value.ref a from r); rfl
 | ty n=>cases (show u=Value.type n from r); rfl
section
variable {P:Program} {w:World} {H H':Hp} {h h':Heap} {a C dx:Addr} {fs YU:List (Str×V)}
theorem Aw (cg:j3 P w H h) (e:H a=some (.ins C dx fs)):∃ mA,BN h a dx C mA∧(∀ f,jq (fs.lookup f) (mA f))∧PySem.Within mA (fs.map (·.1))∧fs.length≤1000∧H dx=some (.own a):=by
 obtain ⟨d,z,ne,ob,mA,n,r,q⟩:=(show cw P w H h a (.ins C dx fs) from cg a _ e)
 exact ⟨mA,⟨ob,n,ne⟩,r,q,z,d⟩
end
structure yi (K:KFr) (C:Addr):Prop where
 pg:PySem.W.plainGet K C Str.empty=true
 hd:PySem.W.hasDictIn K C=true
 po:PySem.W.plainOver K C=true
 sa:PySem.W.findIn K (.ref C) "__setattr__" = some (some (.builtin "object.__setattr__"))
theorem yi.get {K:KFr} {C:Addr} (c:yi K C) (f:Str):PySem.W.plainGet K C f=true:=c.pg
def a_ (K:KFr) (C:Addr) (f:Str):Prop:=PySem.W.findIn K (.ref C) f=some none
theorem a_.TX {K:KFr} {C:Addr} {f:Str} (n:a_ K C f):PySem.W.takerIn K C f=some none:=by
 unfold PySem.W.takerIn
 rw [show PySem.W.findIn K (.ref C) f=some none from n]
 rfl
section
variable {X:Cx} {pins:List (Addr×Obj)} {σ:St} {H:Hp} {s:Shared} {a C dx:Addr} {fs:List (Str×V)} {f:Str} {v:V} {A:Around} {E:Value→Shared→Prop}
theorem yj {b:Bool} {Q:Value→Shared→Prop} (I:Inv X pins σ H s) (e:H a=some (.ins C dx fs)) (c:yi X.K C) (n:a_ X.K C f) (l:fs.lookup f=some v)
  (h:∀ u s',Inv X pins σ H s'→RelV v u→Q u s'):wpAny (model X.prog X.w) A (getAttr (.ref a) f b) Q E s:=by
 obtain ⟨mA,O,r,_,_,_⟩:=Aw I.cg e
 obtain ⟨u,hu,ru⟩:=jq.some_of (v:=v) (o:=mA f) (by rw [← l]; exact r f)
 exact get_map I.qk O (c.get f) c.hd n hu (BP ru) (h u _ (I.tok _) ru)
theorem yk {y:V} {u:Value} {Q:Unit→Shared→Prop} (I:Inv X pins σ H s) (e:H a=some (.ins C dx fs)) (c:yi X.K C) (n:a_ X.K C f) (hl:fs.length < 1000) (ry:RelV y u)
  (h:∀ s',Inv X pins σ (upd H a (.ins C dx (dv f y fs))) s'→Q () s'):wpAny (model X.prog X.w) A (setAttr (.ref a) f u) Q E s:=by
 obtain ⟨mA,O,r,wi,_,ho⟩:=Aw I.cg e
 have hz:(fs.map (·.1)).length≤sizeLine:=by rw [cU,sizeLine_eq]; omega
 refine Jk I.qk O c.sa c.po n.TX c.hd wi hz fun h' O' sb=>h _ ?_
 have hd:∃ o,h'.get? dx=some o:=let ⟨o,_,_,e',_⟩:=O'.ns; ⟨o,e'⟩
 refine I.write (x:=a) (e:=dx) (by rw [e]; exact True.intro) (.inr ho) (fun b q hb z=>(sb.2 b hb).trans z) hd ?_
 refine ⟨by rw [aA O.ne]; exact ho,?_,O.ne,O'.obj,_,O'.ns,fun g=>?_,fun g hg=>?_⟩
 · have:=mC f y fs; omega
 · show jq ((dv f y fs).lookup g) (if g=f then some u else mA g)
   rw [mB]
   by_cases q:g=f
   · rw [if_pos q,if_pos q]; exact ry
   · rw [if_neg q,if_neg q]; exact r g
 · by_cases q:g=f
   · rw [q]; exact (k7 f y fs).1
   · refine (k7 f y fs).2 g (wi g fun z=>hg ?_)
     show (if g=f then some u else mA g)=none
     rw [if_neg q]; exact z
theorem Inv.made (I:Inv X pins σ H s):Inv X pins σ (upd (upd H s.heap.objs.size (.own (s.heap.objs.size+1))) (s.heap.objs.size+1) (.ins C s.heap.objs.size []))
  { s with heap:=(s.heap.push PySem.W.emptyDict).push (PySem.W.instObj C s.heap.objs.size) }:=by
 have e1:(s.heap.push PySem.W.emptyDict).get? s.heap.objs.size=some PySem.W.emptyDict:=mZ s.heap rfl
 have e2:((s.heap.push PySem.W.emptyDict).push (PySem.W.instObj C s.heap.objs.size)).get? (s.heap.objs.size+1)=some (PySem.W.instObj C s.heap.objs.size):=by
  have:=mZ (s.heap.push PySem.W.emptyDict) (o:=PySem.W.instObj C s.heap.objs.size) rfl
  rwa [DY] at this
 have e3:(s.heap.push PySem.W.emptyDict).Ns s.heap.objs.size (fun _=>none):=⟨PySem.W.emptyDict,#[],_,e1,rfl,(fun e he=>absurd he (by simp)),fun _=>rfl⟩
 have I1:=I.laid (a:=s.heap.objs.size) (o:=.own (s.heap.objs.size+1)) (h':=s.heap.push PySem.W.emptyDict) (t':=s.toks) (fun b u q=>fH _ q) (dm _) ⟨_,e1⟩
 refine I1.laid (a:=s.heap.objs.size+1) (o:=.ins C s.heap.objs.size []) (t':=s.toks) (fun b u q=>fH _ q) (Nat.le_of_eq (DY _ _)) ?_
 have ne:s.heap.objs.size≠s.heap.objs.size+1:=j4 (DW _)
 refine ⟨by rw [aA ne,aI],jw _,ne,e2,fun _=>none,(Heap.Ns1.of_empty e3).at fun o q=>fH _ q,fun _=>True.intro,fun y hy=>absurd rfl hy⟩
theorem Jl {prog:Program} {w:World} {env:Env} {e:Expr} {f:Str} {pos:Pos} {s:Shared} {Q:Value→Shared→Prop} (hb:attributeBase e f env (eval e env)=eval e env)
  (h:wpAny (model prog w) A (eval e env) (fun o s₁=>wpAny (model prog w) A (getAttr o f true) Q E s₁) E s):wpAny (model prog w) A (eval (.Attribute e f pos) env) Q E s :=
 Attribute_any_ h (by rw [arm_eval_Attribute,hb])
end
def Zh (K:KFr) (ta:TE) (f:Str):TE:=fun σ H Q=>ta σ H fun x H1=>∃ a C dx fs v,x = .ref a∧H1 a=some (.ins C dx fs)∧yi K C∧a_ K C f∧fs.lookup f=some v∧Q v H1
def Zi (K:KFr) (ta tv:TE) (f:Str):TS:=fun D σ H=>tv σ H fun y H1=>ta σ H1 fun x H2=>∃ a C dx fs,x = .ref a∧H2 a=some (.ins C dx fs)∧yi K C∧a_ K C f∧fs.length < 1000 ∧
 D.nx σ (upd H2 a (.ins C dx (dv f y fs)))
section
variable {X:Cx} {o e value:Expr} {f:Str} {pos pos' fB:Pos} {ta tv:TE}
theorem yl (he:PE X e ta) (hb:attributeBase e f X.env (eval e X.env)=eval e X.env):PE X (.Attribute e f pos) (Zh X.K ta f):=by
 intro pins s σ H Q I h
 refine Jl hb (cm (he pins s σ H _ I h) fun u s1 ⟨x,H1,I1,rx,a,C,dx,fs,v,ex,ea,c,n,l,q⟩=>?_)
 subst ex
 obtain rfl:u=Value.ref a:=rx
 exact yj I1 ea c n l fun u' s2 I2 ru=>⟨v,H1,I2,ru,q⟩
theorem eQ (ha:PE X o ta) (hv:PE X value tv) (hs:swapsWith value (some (.Attribute o f pos')) pos.line X.env=pure false):PS X (.Assign [.Attribute o f pos'] value pos) (Zi X.K ta tv f):=by
 intro pins s σ H D I h
 refine plainObj_wpAny_Assign_Attribute (cm (hv pins s σ H _ I h) fun u s1 ⟨y,H1,I1,ry,q⟩=>cm (ha pins s1 σ H1 _ I1 q) fun ov s2 ⟨x,H2,I2,rx,a,C,dx,fs,ex,ea,c,n,l,q2⟩=>?_) hs
 subst ex
 obtain rfl:ov=Value.ref a:=rx
 exact yk I2 ea c n l ry fun s3 I3=>⟨σ,_,I3,q2⟩
end
section
variable {X:Cx} {pins:List (Addr×Obj)} {σ:St} {H:Hp} {s:Shared} {A:Around} {E:Value→Shared→Prop} {Q:Value→Shared→Prop} {c:Value} {b:Bool}
end
structure bz (k:Nat) (A:Around):Prop where
 hd:A.handled=none
 dp:A.depth+3 * k+5 < recursionLimit
 un:A.units+16 * k+200 < cLine
theorem bz.mono {j k:Nat} {A:Around} (r:bz k A) (h:j≤k):bz j A:=⟨r.hd,by have:=r.dp; omega,by have:=r.un; omega⟩
theorem bz.deeper {k:Nat} {A:Around} (r:bz (k+1) A) (env:Env):bz k (A.deeper env) :=
 ⟨r.hd,by have:=r.dp; show A.depth+1+3 * k+5 < _; omega,by have:=r.un; show A.units+3+16 * k+200 < _; omega⟩
theorem ym {A:Around} {C:Addr} {us:List Value} {kw:List (Str×Value)}:(A.under (.builtin "type.__call__" ⟨.ref C :: us,kw⟩)).depth=A.depth+1:=by
 first | rfl | simp [Around.under,Code.weight,Code.isCreation,Code.isGuard,Code.isCaller,Code.frames,Code.isFrame,guardIds]
theorem yn {A:Around} {C:Addr} {us:List Value} {kw:List (Str×Value)}:(A.under (.builtin "type.__call__" ⟨.ref C :: us,kw⟩)).units=A.units+1:=by
 first | rfl | simp [Around.under,Code.cUnits,Code.frames,Code.isFrame]
theorem bz.make {k:Nat} {A:Around} (r:bz (k+1) A) (C:Addr) (us:List Value) (kw:List (Str×Value)):bz k (A.under (.builtin "type.__call__" ⟨.ref C :: us,kw⟩)) :=
 ⟨r.hd,by have:=r.dp; rw [ym]; omega,by have:=r.un; rw [yn]; omega⟩
theorem bz.depth {k:Nat} {A:Around} (r:bz k A):A.depth < recursionLimit:=by have:=r.dp; omega
def Zj:TA:=fun _ H Q=>Q [] H
def TY (ta:TE) (tr:TA):TA:=fun σ H Q=>ta σ H fun x H1=>tr σ H1 fun xs H2=>Q (x :: xs) H2
section
variable {X:Cx} {e:Expr} {es:List Expr} {te:TE} {t:TA} {pos:Pos}
theorem cO:PA X [] Zj:=fun _ _ _ _ H Q I h=>Calls.spliced_nil ⟨[],H,I,.nil,h⟩
theorem bw (ha:PE X e te) (hr:PA X es t) (hs:starEach (e :: es) X.env=(false,eval e X.env) :: starEach es X.env:=by rfl):PA X (e :: es) (TY te t):=by
 intro pos pins s σ H Q I h
 rw [hs]
 show wpAny _ _ (spliced ((false,eval e X.env) :: backTo pos (starEach es X.env))) _ _ s
 refine Tf (cm (ha pins s σ H _ I h) fun u s1 ⟨x,H1,I1,r1,q1⟩=>?_)
 exact cm (hr pos pins s1 σ H1 _ I1 q1) fun us s2 ⟨xs,H2,I2,r2,q2⟩=>⟨x :: xs,H2,I2,.cons r1 r2,q2⟩
def Zk (t:TA):TE:=fun σ H Q=>t σ H fun xs H1=>xs.length≤sizeLine∧∀ p,H1 p=none→Q (.ref p) (upd H1 p (.tup xs))
def Zl (t:TA):TE:=fun σ H Q=>t σ H fun xs H1=>xs.length≤sizeLine∧∀ p,H1 p=none→Q (.ref p) (upd H1 p (.lst xs))
theorem yo {x1} (h:PA X es t):PE X (.Tuple es x1 pos) (Zk t):=by
 intro pins s σ H Q I hq
 refine wpAny_Tuple_spliced (cm (h pos pins s σ H _ I hq) fun us s1 ⟨xs,H1,I1,r,z,q⟩=>⟨by rw [← r.length]; exact z,?_⟩)
 have hf:H1 s1.heap.objs.size=none:=I1.cg.fresh (dm _)
 refine ⟨.ref s1.heap.objs.size,upd H1 s1.heap.objs.size (.tup xs),I1.laid (t':=s1.toks) (fun b u e=>fH _ e) (dm _) ?_,rfl,q _ hf⟩
 exact ⟨z,us,r,⟨_,mZ _ rfl,rfl,_,rfl⟩⟩
theorem yp (h:PA X es t):PE X (.List es pos) (Zl t):=by
 intro pins s σ H Q I hq
 refine wpAny_List_spliced (cm (h pos pins s σ H _ I hq) fun us s1 ⟨xs,H1,I1,r,z,q⟩=>⟨by rw [← r.length]; exact z,?_⟩)
 have hf:H1 s1.heap.objs.size=none:=I1.cg.fresh (dm _)
 refine ⟨.ref s1.heap.objs.size,upd H1 s1.heap.objs.size (.lst xs),I1.laid (t':=s1.toks) (fun b u e=>fH _ e) (dm _) ?_,rfl,q _ hf⟩
 exact ⟨z,us,0,r,mZ _ rfl⟩
end
abbrev Sp:=List V→Hp→VK→XK→Prop
abbrev DJ:=List Env→Hp→Shared→XK→Value→Shared→Prop
structure yq (P:Program) (w:World) (K:KFr) (mg:Str→Option Value) (base:Heap) (A:Around) (outer:List Env) (s:Shared) (H:Hp):Prop where
 frames:A.frames=some outer
 mod:Mod K mg base
 bs:∀ b o,base.get? b=some o→s.heap.get? b=some o∧H b=none
 DI:base.objs.size≤s.heap.objs.size
 j6:s.heap.FunFrames base outer
 I9:∀ b∈DH outer,H b=none
 cg:j3 P w H s.heap
 bare:AllBare s.gens
def CE (outer:List Env) (P:Program) (w:World) (H:Hp) (s:Shared) (Q:VK) (u:Value) (s':Shared):Prop :=
 ∃ v H',s'.os=s.os∧AllBare s'.gens∧Un (DH outer) [] H H' s.heap s'.heap∧j3 P w H' s'.heap∧RelV v u∧Q v H'
def CR (CX:DJ) (outer:List Env) (P:Program) (w:World) (H:Hp) (s:Shared) (Q:VK) (E:XK) (r:Result) (s':Shared):Prop :=
 match r with
 | .ok (.ret u)=>CE outer P w H s Q u s'
 | .ok _=>False
 | .error e=>CX outer H s E e s'
structure b_ (P:Program) (w:World) (K:KFr) (mg:Str→Option Value) (base:Heap) (CX:DJ) (k:Nat) (f:Addr) (fd:FuncData) (ps:List Str) (sp:Sp):Prop where
 len:∀ vs H Q E,sp vs H Q E→vs.length=ps.length
 run:∀ (A:Around) (outer:List Env) (s:Shared) (H:Hp) (args:Args) (us:List Value) (vs:List V) (Q:VK) (E:XK),bz k A→yq P w K mg base A outer s H→BindsTo s fd args (ps.zip us)→Vals vs us→sp vs H Q E →
  codeAny (model P w) A (.call (.ref f) args) (CR CX outer P w H s Q E) s
theorem yq.make {P:Program} {w:World} {K:KFr} {mg:Str→Option Value} {base:Heap} {A:Around} {outer:List Env} {s:Shared} {H:Hp} (e:yq P w K mg base A outer s H) (C:Addr) (us:List Value) (kw:List (Str×Value)) :
 yq P w K mg base (A.under (.builtin "type.__call__" ⟨.ref C :: us,kw⟩)) outer s H:=⟨by first | exact e.frames | (simpa [Around.under,Code.envs,Code.isFrame,pushEnvs] using e.frames),e.mod,e.bs,e.DI,e.j6,e.I9,e.cg,e.bare⟩
section
variable {X:Cx} {pins:List (Addr×Obj)} {σ:St} {H:Hp} {s s':Shared}
theorem Inv.TZ (I:Inv X pins σ H s):yq X.prog X.w X.K X.mg X.base X.A X.stack s H :=
 ⟨I.ok.frames,I.ok.mod,I.bs,k0 I.ok.DI I.sz,I.stack,I.Aq,I.cg,I.bare⟩
theorem Inv.after {Q:VK} {u:Value} (I:Inv X pins σ H s) (h:CE X.stack X.prog X.w H s Q u s'):EP X pins σ Q u s':=by
 obtain ⟨v,H',os,bare,un,cg,r,q⟩:=h
 obtain ⟨hh,g,d,t,os'⟩:=s'
 obtain rfl:os'=s.os:=os
 exact ⟨v,H',I.call (h':=hh) (g':=g) (d':=d) (t':=t) (ch:=[]) un cg bare (fun b z=>absurd z (by simp)),r,q⟩
end
def T1 (sp:Sp) (sJ:List V) (E:XK) (t:TA):TE:=fun σ H Q=>t σ H fun vs H1=>sp (vs ++ sJ) H1 Q E
def T2 (C:Addr) (sp:Sp) (sJ:List V) (E:XK) (t:TA):TE:=fun σ H Q=>t σ H fun vs H1=>∀ x dx,H1 x=none→H1 dx=none→dx≠x →
 sp (.ref x :: (vs ++ sJ)) (upd (upd H1 dx (.own x)) x (.ins C dx [])) (fun v H2=>v = .aT∧Q (.ref x) H2) E
def Binds (K:KFr) (fd:FuncData) (ps:List Str) (ds:List Value):Prop :=
 ∀ (s:Shared) (us:List Value),K.In s.heap→(us ++ ds).length=ps.length→BindsTo s fd ⟨us,[]⟩ (ps.zip (us ++ ds))
theorem Binds.all {K:KFr} {fd:FuncData} {ps:List Str} (h:∀ us:List Value,us.length=ps.length→bindArgs fd ⟨us,[]⟩=pure (ps.zip us)):Binds K fd ps []:=fun s us _ hl=>by
 rw [IC] at hl ⊢
 exact .of_eq (h us hl)
def Passes (CX:DJ) (X:Cx) (E:XK):Prop:=∀ (pins:List (Addr×Obj)) (σ:St) (H:Hp) (s:Shared) (e:Value) (s':Shared),Inv X pins σ H s→CX X.stack H s E e s'→X.xe e s'
section
variable {X:Cx} {CX:DJ} {k:Nat} {f C:Addr} {fd:FuncData} {ps:List Str} {sp:Sp} {sJ:List V} {ds:List Value} {E:XK} {x m:Str} {p pos apos:Pos} {e o:Expr} {es:List Expr} {ta:TE} {t:TA}
theorem yr {pins:List (Addr×Obj)} {σ:St} {H:Hp} {s:Shared} {Q:VK} {us:List Value} {vs:List V} (F:b_ X.prog X.w X.K X.mg X.base CX k f fd ps sp) (hr:bz k X.A) (hb:Binds X.K fd ps ds) (hd:Vals sJ ds) (hx:Passes CX X E)
  (I:Inv X pins σ H s) (r:Vals vs us) (h:sp (vs ++ sJ) H Q E):wpAny (model X.prog X.w) X.A (call (.ref f) us) (EP X pins σ Q) X.xe s:=by
 have r2:Vals (vs ++ sJ) (us ++ ds):=r.append hd
 have hl:(us ++ ds).length=ps.length:=by rw [← r2.length]; exact F.len _ _ _ _ h
 refine wpAny_call (codeAny_mono (F.run X.A X.stack s H ⟨us,[]⟩ (us ++ ds) (vs ++ sJ) Q E hr I.TZ (hb s us I.qk hl) r2 h) fun r s' hq=>?_)
 cases r with
 | error e=>exact hx pins σ H s e s' I hq
 | ok fl =>
   cases fl with
   | ret u=>exact I.after hq
   | _=>exact False.elim hq
theorem j9 (F:b_ X.prog X.w X.K X.mg X.base CX k f fd ps sp) (hr:bz k X.A) (hg:Gl X x) (hm:X.mg x=some (.ref f)) (hk:PySem.W.keepIn X.K (.ref f)=true) (hb:Binds X.K fd ps ds) (hd:Vals sJ ds) (hx:Passes CX X E)
  (ha:PA X (e :: es) t) (qm:ic x:=by decide) (he:starEach (e :: es) X.env=(false,eval e X.env) :: starEach es X.env:=by rfl) (jy:(backTo pos (starEach es X.env)).any (·.1)=false:=by rfl) :
  PE X (.Call (.Name x p) (e :: es) [] pos) (T1 sp sJ E t):=by
 intro pins s σ H Q I h
 refine wpAny_Call_Name_kw (sF I hg hm ?_ qm)
 refine XI (h₀:=X.base) I.ok.mod.SG hk (cm (ha pos pins s σ H _ I h) fun us s1 ⟨vs,H1,I1,r,q⟩=>⟨I1.qk,?_⟩) he jy
 exact yr F hr hb hd hx I1 r q
structure Mk (K:KFr) (C f:Addr):Prop where
 makes:PySem.W.makesIn K C=true
 init:PySem.W.findIn K (.ref C) "__init__" = some (some (.ref f))
 fn:PySem.W.isFn K (.ref f)=true
 kp:PySem.W.keepIn K (.ref C)=true
theorem Ek {pins:List (Addr×Obj)} {σ:St} {H:Hp} {s:Shared} {Q:VK} {us:List Value} {vs:List V} (M:Mk X.K C f) (F:b_ X.prog X.w X.K X.mg X.base CX k f fd ps sp) (hr:bz (k+1) X.A) (hb:Binds X.K fd ps ds) (hd:Vals sJ ds)
  (hx:Passes CX X E) (I:Inv X pins σ H s) (r:Vals vs us)
  (h:∀ x dx,H x=none→H dx=none→dx≠x→sp (.ref x :: (vs ++ sJ)) (upd (upd H dx (.own x)) x (.ins C dx [])) (fun v H2=>v = .aT∧Q (.ref x) H2) E) :
  wpAny (model X.prog X.w) X.A (call (.ref C) us) (EP X pins σ Q) X.xe s:=by
 have hq:=h (s.heap.objs.size+1) s.heap.objs.size (I.cg.fresh (Ot _)) (I.cg.fresh (dm _)) (j4 (DW _))
 have I2:=Inv.made (C:=C) I
 have r2:Vals (V.ref (s.heap.objs.size+1) :: (vs ++ sJ)) (Value.ref (s.heap.objs.size+1) :: (us ++ ds)):=.cons rfl (r.append hd)
 have hl:(Value.ref (s.heap.objs.size+1) :: us ++ ds).length=ps.length:=by
  have e:=r2.length
  rw [F.len _ _ _ _ hq] at e
  exact e.symm
 refine wpAny_call (Ej (f:=f) I.qk M.makes M.init (beq_iff_eq.mp M.fn) (codeAny_mono (F.run _ X.stack _ _ ⟨Value.ref (s.heap.objs.size+1) :: us,[]⟩ (Value.ref (s.heap.objs.size+1) :: (us ++ ds)) _ _ E (hr.make C us [])
  (I2.TZ.make C us []) (hb _ (Value.ref (s.heap.objs.size+1) :: us) I2.qk hl) r2 hq) fun r s' h7=>?_))
 cases r with
 | error e=>exact hx pins σ _ _ e s' I2 h7
 | ok fl =>
   cases fl with
   | ret u =>
     obtain ⟨v,H',I3,rv,ev,q3⟩:=I2.after h7
     subst ev
     exact ⟨rv,⟨V.ref (s.heap.objs.size+1),H',I3,rfl,q3⟩⟩
   | _=>exact False.elim h7
theorem sL (M:Mk X.K C f) (F:b_ X.prog X.w X.K X.mg X.base CX k f fd ps sp) (hr:bz (k+1) X.A) (hg:Gl X x) (hm:X.mg x=some (.ref C)) (hb:Binds X.K fd ps ds) (hd:Vals sJ ds) (hx:Passes CX X E)
  (ha:PA X (e :: es) t) (qm:ic x:=by decide) (he:starEach (e :: es) X.env=(false,eval e X.env) :: starEach es X.env:=by rfl) (jy:(backTo pos (starEach es X.env)).any (·.1)=false:=by rfl) :
  PE X (.Call (.Name x p) (e :: es) [] pos) (T2 C sp sJ E t):=by
 intro pins s σ H Q I h
 refine wpAny_Call_Name_kw (sF I hg hm ?_ qm)
 refine XI (h₀:=X.base) I.ok.mod.SG M.kp (cm (ha pos pins s σ H _ I h) fun us s1 ⟨vs,H1,I1,r,q⟩=>⟨I1.qk,?_⟩) he jy
 exact Ek M F hr hb hd hx I1 r q
end
section
variable {X:Cx} {CX:DJ} {k:Nat} {f C:Addr} {fd:FuncData} {ps ks:List Str} {sp:Sp} {E:XK} {x m:Str} {p pos apos Zm:Pos} {e o:Expr} {es:List Expr} {kws:List Keyword} {te ta:TE} {t tk:TA} {nm:Option Str}
variable {g:List Value→List Value→List Value} {gV:List V→List V→List V}
end
structure aC (N P:List Str) (sc:Scope):Prop where
 kind:sc.kind = .function
 co:sc.isCoroutine=false
 gen:sc.isGenerator=false
 nd:N.Nodup
 pre:N.take P.length=P
 par:∀ x∈P,sc.names.lookup x=some .local∨sc.names.lookup x=some .cell
 O0:∀ y∈sc.names,y.2≠.free
theorem gj {N P:List Str} {sc:Scope} (a:sc.kind=.function:=by rfl) (b:sc.isCoroutine=false:=by rfl) (c:sc.isGenerator=false:=by rfl) (d:N.Nodup:=by decide +kernel) (e:N.take P.length=P:=by rfl) (f:∀ x∈P,sc.names.lookup x=some .local∨sc.names.lookup x=some .cell:=by decide +kernel) (g:∀ y∈sc.names,y.2≠.free:=by decide +kernel):aC N P sc:=⟨a,b,c,d,e,f,g⟩
theorem rq {kindOf:Str→Option NameKind} {x:Str}:∀ {binds:List (Str×Value)} {m:Str→Option Value},(∀ v,(x,v)∉binds)→bindL kindOf binds m x=m x
 | [],_,_=>rfl
 | (n,v) :: r,m,h=>by
   unfold bindL
   rw [rq fun w hw=>h w (eB _ hw)]
   split
   · have:x≠n:=by rintro rfl; exact h v c6
     simp [this]
   · rfl
theorem rA {kindOf:Str→Option NameKind} {x:Str}:∀ {binds:List (Str×Value)} {m:Str→Option Value},(∀ v,(x,v)∉binds)→bindC kindOf binds m x=m x
 | [],_,_=>rfl
 | (n,v) :: r,m,h=>by
   unfold bindC
   rw [rA fun w hw=>h w (eB _ hw)]
   split
   · rfl
   · have:x≠n:=by rintro rfl; exact h v c6
     simp [this]
theorem rB {kindOf:Str→Option NameKind} {x:Str} {v:Value}:∀ {P:List Str} {vs:List Value} {i:Nat} {m:Str→Option Value},P.Nodup→P[i]?=some x→vs[i]?=some v→kindOf x=some .local →
  bindL kindOf (P.zip vs) m x=some v
 | [],_,_,_,_,h,_,_=>by simp at h
 | _ :: _,[],_,_,_,_,h,_=>by simp at h
 | p :: P,w :: vs,0,m,nd,h1,h2,hk=>by
   simp at h1 h2; subst h1; subst h2
   show bindL kindOf ((p,w) :: P.zip vs) m p=_
   unfold bindL
   rw [rq fun v hv=>(jI.mp nd).1 (List.of_mem_zip hv).1,if_pos hk]
   simp
 | p :: P,w :: vs,i+1,m,nd,h1,h2,hk=>by
   show bindL kindOf ((p,w) :: P.zip vs) m x=_
   unfold bindL
   exact rB (i:=i) (jI.mp nd).2 (by simpa using h1) (by simpa using h2) hk
theorem rC {kindOf:Str→Option NameKind} {x:Str} {v:Value}:∀ {P:List Str} {vs:List Value} {i:Nat} {m:Str→Option Value},P.Nodup→P[i]?=some x→vs[i]?=some v→kindOf x≠some .local →
  bindC kindOf (P.zip vs) m x=some v
 | [],_,_,_,_,h,_,_=>by simp at h
 | _ :: _,[],_,_,_,_,h,_=>by simp at h
 | p :: P,w :: vs,0,m,nd,h1,h2,hk=>by
   simp at h1 h2; subst h1; subst h2
   show bindC kindOf ((p,w) :: P.zip vs) m p=_
   unfold bindC
   rw [rA fun v hv=>(jI.mp nd).1 (List.of_mem_zip hv).1,if_neg hk]
   simp
 | p :: P,w :: vs,i+1,m,nd,h1,h2,hk=>by
   show bindC kindOf ((p,w) :: P.zip vs) m x=_
   unfold bindC
   exact rC (i:=i) (jI.mp nd).2 (by simpa using h1) (by simpa using h2) hk
def start (N:List Str) (vs:List V):St:=vs.map some ++ List.replicate (N.length - vs.length) none
def eG (CX:DJ) (P:Program) (w:World) (K:KFr) (mg:Str→Option Value) (base:Heap) (N:List Str) (qual:Str) (scope:Scope) (f:Addr) (cd:Value) (A:Around) (outer:List Env) (s:Shared) (H:Hp) (E:XK):Cx where
 prog:=P
 w:=w
 K:=K
 mg:=mg
 base:=base
 A:=A.deeper (envOfC qual scope s.heap.objs.size f cd)
 N:=N
 s₀:=s
 H₀:=H
 env:=envOfC qual scope s.heap.objs.size f cd
 outer:=outer
 stack:=envOfC qual scope s.heap.objs.size f cd :: outer
 ex:=[]
 calm:=true
 fn:=fun _=>true
 pn:=[]
 xe:=fun e s'=>wpAny (model P w) (A.deeper (envOfC qual scope s.heap.objs.size f cd)) (leaving (envOfC qual scope s.heap.objs.size f cd) e) (fun _ T3=>CX outer H s E e T3) (fun e' T3=>CX outer H s E e' T3) s'
theorem vy {sc:Scope} {n:Nat} {x:Str} (h:sc.names.lookup x=some .cell):∃ c,(cellsFrom n sc.names []).lookup x=some c:=by
 have q:=PySem.W.cellsFrom_some sc.names n [] (.inl h)
 exact Option.isSome_iff_exists.mp q
theorem BQ {CX:DJ} {P:Program} {w:World} {K:KFr} {mg:Str→Option Value} {base:Heap} {N ps:List Str} {qual:Str} {scope:Scope} {f:Addr} {cd:Value} {A:Around} {outer:List Env} {s s1:Shared} {H:Hp} {E:XK} {us:List Value} {vs:List V}
  (S:aC N ps scope) (hd:A.handled=none) (e0:yq P w K mg base A outer s H) (hl:vs.length=ps.length) (r:Vals vs us)
  (x:InCallC s s.heap.objs.size (bindL (envOfC qual scope s.heap.objs.size f cd).kindOf (ps.zip us) fun _=>none) (cellsFrom (s.heap.objs.size+1) scope.names []) (bindC (envOfC qual scope s.heap.objs.size f cd).kindOf (ps.zip us) fun _=>none) s1) :
  Inv (eG CX P w K mg base N qual scope f cd A outer s H E) [] (start N vs) H s1:=by
 have jy:ps.length≤N.length:=by have:=congrArg List.length S.pre; rw [Oh] at this; omega
 obtain ⟨h1,tk,rfl,hk⟩:=x.done
 have T4:∀ b:Addr,b∉(eG CX P w K mg base N qual scope f cd A outer s H E).ex:=fun b z=>absurd (show b∈([]:List Addr) from z) (by simp)
 refine ⟨⟨e0.mod,S.kind,rfl,rfl,dm _,fun y z c h1 h2=>?_,fun y hy=>?_,fun y c _ h=>?_,fun _=>hd,Around.frames_deeper e0.frames,.inr ⟨rfl,rfl⟩,fun b z=>absurd z (T4 b),e0.bs,e0.DI,fun b _ _=>T4 b,fun b z=>absurd z (T4 b),e0.j6,e0.I9⟩,
  rfl,e0.bare,Un.kept hk,⟨_,x.toInCall.ns,fun i y v h1 h2 h3=>?_⟩,fun y c h=>⟨_,x.cell y c h⟩,e0.cg.fresh (dm _),fun y c h=>?_,fun p hp=>absurd (show p∈([]:List (Addr×Obj)) from hp) (by simp),e0.cg.kept hk,?_⟩
 · exact name_of_addr x.apart (Mv h1) (Mv h2)
 · have hy:scope.names.lookup y=some .cell∨scope.names.lookup y=some .free:=hy
   rcases hy with hy | hy
   · exact vy hy
   · exact absurd rfl (S.O0 _ (Mv hy))
 · exact Nat.le_of_lt (x.above y c (Mv h))
 · have hi:i < vs.length:=by
    unfold start at h2
    by_cases hi:i < vs.length
    · exact hi
    · rw [uX (by simpa using hi)] at h2
      rw [BB] at h2
      split at h2 <;> cases h2
   have ha:vs[i]?=some v:=by
    unfold start at h2
    rw [qh (by simpa using hi),i4] at h2
    cases e:vs[i]? with
    | none=>rw [e] at h2; cases h2
    | some a=>rw [e] at h2; cases h2; rfl
   obtain ⟨u,hu,rv⟩:=r.get ha
   have hp:ps[i]?=some y:=by
    rw [← S.pre,List.getElem?_take_of_lt (by omega)]; exact h1
   have ndP:ps.Nodup:=by rw [← S.pre]; exact S.nd.sublist (List.take_sublist _ _)
   refine ⟨u,rv,?_⟩
   rcases S.par y (ik hp) with k | k
   · exact .inl ⟨k,rB ndP hp hu k⟩
   · obtain ⟨c,e⟩:=vy (n:=s.heap.objs.size+1) k
     refine .inr ⟨.inl k,c,e,?_⟩
     have q:=x.cell y c e
     rw [rC ndP hp hu (by show scope.names.lookup y≠_; rw [k]; decide)] at q
     exact q
 · exact e0.cg.fresh (Nat.le_of_lt (x.above y c (Mv h)))
 · unfold start
   show _=N.length
   rw [uY,cU,An]
   omega
theorem MW {CX:DJ} {P:Program} {w:World} {K:KFr} {mg:Str→Option Value} {base:Heap} {k:Nat} {f:Addr} {name qual:Str} {params:Arguments} {body:List Stmt} {scope:Scope} {dV kV doc pm bu ct oc:Value} {an od:Option Addr}
  {BR:Array (Option Value)} {N ps:List Str} {sp:Sp} (lk:K.lookup f=some ⟨oc,od,.func (PySem.W.fnOf name qual params body scope dV kV doc pm an bu ct),BR⟩) (gn:PySem.W.codeIn K bu qual=true) (S:aC N ps scope)
  (len:∀ vs H Q E,sp vs H Q E→vs.length=ps.length)
  (cb:∀ (A:Around) (outer:List Env) (s:Shared) (H:Hp) (vs:List V) (Q:VK) (E:XK),bz k (A.deeper (envOfC qual scope s.heap.objs.size f bu))→sp vs H Q E →
    ∃ t,gG (eG CX P w K mg base N qual scope f bu A outer s H E) body t∧t { nx:=fun _ H'=>Q .aT H',rt:=Q } (start N vs) H) :
  b_ P w K mg base CX (k+1) f (PySem.W.fnOf name qual params body scope dV kV doc pm an bu ct) ps sp:=by
 refine ⟨len,fun A outer s H args us vs Q E hr e0 hb r II=>?_⟩
 have hl:=len _ _ _ _ II
 have KX:K.In s.heap:=e0.mod.SG.keeps fun b o e=>(e0.bs b o e).1
 have lim:s.heap.NoLimit:=e0.mod.nolimit.keeps fun b o e=>(e0.bs b o e).1
 have T5:∀ y∈ps.zip us,scope.names.lookup y.1=some .local∨(scope.names.lookup y.1=some .cell∧((cellsFrom (s.heap.objs.size+1) scope.names []).lookup y.1).isSome=true):=fun ⟨n,v⟩ hy=>by
  rcases S.par n (List.of_mem_zip hy).1 with q | q
  · exact .inl q
  · exact .inr ⟨q,PySem.W.cellsFrom_some _ _ _ (.inl q)⟩
 refine codeAny_call_function hr.depth (KX _ _ lk) rfl S.co S.gen rfl (PySem.W.codeRec_of KX gn) (hb _ _ _ _ ?_)
 refine wpAny_newFunctionEnv_cells S.kind T5 fun env he s1 x=>?_
 subst he
 refine ⟨lim.keeps x.toInCall.keep,codeAny_func ?_⟩
 obtain ⟨t,ht,hq⟩:=cb A outer s H vs Q E (hr.deeper _) II
 have I:Inv (eG CX P w K mg base N qual scope f bu A outer s H E) [] (start N vs) H s1:=BQ S hr.hd e0 hl r x
 refine wpAny_mono (ht [] s1 (start N vs) H _ I hq) (fun fl s' hs=>?_) fun e s' hs=>hs
 have fin:∀ {σ':St} {H':Hp} {v:V} {u:Value},Inv (eG CX P w K mg base N qual scope f bu A outer s H E) [] σ' H' s'→RelV v u→Q v H'→CE outer P w H s Q u s' :=
  fun {σ' H' v u} J rv q=>⟨v,H',J.os,J.bare,J.base,J.cg,rv,q⟩
 cases fl with
 | ret u =>
   obtain ⟨v,σ',H',J,rv,q⟩:=hs
   exact fin J rv q
 | next =>
   obtain ⟨σ',H',J,q⟩:=hs
   exact fin (v:=V.aT) (u:=Value.none) J rfl q
 | brk =>
   obtain ⟨_,_,_,q⟩:=hs
   exact False.elim q
 | cont =>
   obtain ⟨_,_,_,q⟩:=hs
   exact False.elim q
section
variable {X:Cx} {x:Str} {p pos:Pos} {e:Expr} {es:List Expr} {t:TA} {id T:String} {r:List V→Hp→VK→Prop}
def tCB (r:List V→Hp→VK→Prop) (t:TA):TE:=fun σ H Q=>t σ H fun vs H1=>r vs H1 Q
theorem og (hc:dA X (.builtin id) r) (hg:Gl X x) (hm:X.mg x=none) (hv:bootBuiltins x=some (.builtin id)) (ha:PA X (e :: es) t) (hn:x≠"__name__":=by decide) (qm:ic x:=by decide)
  (he:starEach (e :: es) X.env=(false,eval e X.env) :: starEach es X.env:=by rfl) (jy:(backTo pos (starEach es X.env)).any (·.1)=false:=by rfl):PE X (.Call (.Name x p) (e :: es) [] pos) (tCB r t):=by
 intro pins s σ H Q I h
 refine wpAny_Call_Name_kw (ip I hg hm hv ?_ hn qm)
 exact PyProof.Rows.callWith_builtin1 (cm (ha pos pins s σ H _ I h) fun us s1 ⟨vs,H1,I1,r1,q1⟩=>hc pins s1 σ H1 vs us Q I1 r1 q1) he jy
theorem BS (hc:dA X (.type T) r) (hg:Gl X x) (hm:X.mg x=none) (hv:bootBuiltins x=some (.type T)) (ha:PA X (e :: es) t) (hn:x≠"__name__":=by decide) (qm:ic x:=by decide)
  (he:starEach (e :: es) X.env=(false,eval e X.env) :: starEach es X.env:=by rfl) (jy:(backTo pos (starEach es X.env)).any (·.1)=false:=by rfl):PE X (.Call (.Name x p) (e :: es) [] pos) (tCB r t):=by
 intro pins s σ H Q I h
 refine wpAny_Call_Name_kw (ip I hg hm hv ?_ hn qm)
 exact Sw (cm (ha pos pins s σ H _ I h) fun us s1 ⟨vs,H1,I1,r1,q1⟩=>hc pins s1 σ H1 vs us Q I1 r1 q1) he jy
end
end L2
namespace HT
open PySem PyProof.Rows
section
open PySem.SeqAt
open PySem.AutoSeq1 (wpAny_loadPart')
open PySem.MeetsSeq PySem.MeetsSeq2 PySem.MeetsSeq3
end
section
variable {prog:Program} {w:World} {A:Around} {E:Value→Shared→Prop} {s:Shared}
theorem Jm {t b:Addr} {vs ws:List Value} {Q:Value→Shared→Prop} (ht:IsTup s.heap t vs.toArray) (hb:IsTup s.heap b ws.toArray) (hv:vs≠[])
  (h1:ws=[]→Q (.ref t) s) (h2:ws≠[]→Q (.ref s.heap.objs.size) { s with heap:=s.heap.push { cls:=.type "tuple",data:=.seq (vs ++ ws).toArray } })
  (hsz:vs.length+ws.length≤sizeLine):wpAny (model prog w) A (binaryOp .Add (.ref t) (.ref b)) Q E s:=by
 obtain ⟨⟨cls,dd,data,sl⟩,ho,hc,n,hd⟩:=id ht
 obtain ⟨⟨T6,SI,data2,SJ⟩,DK,DN,n2,hd2⟩:=id hb
 simp only at hc hd DN hd2
 subst hc hd DN hd2
 have e:vs.toArray ++ ws.toArray=(vs ++ ws).toArray:=by simp
 by_cases hw:ws=[]
 · exact concat_meets ⟨_,ho,rfl⟩ ⟨_,DK,rfl⟩ noFill_tuple_add seq_tuple_add YM YI (YH _ _)
    (tuple_addW1 t b vs.toArray ws.toArray n n2 dd SI sl SJ (by simpa using hv) (by simp [hw])) ⟨ho,DK,h1 hw⟩
 · refine concat_meets ⟨_,ho,rfl⟩ ⟨_,DK,rfl⟩ noFill_tuple_add seq_tuple_add YM YI (YH _ _)
    (tuple_addW2 t b vs.toArray ws.toArray n n2 dd SI sl SJ (by simpa using hv) (by simpa using hw) (by rw [gF,gF]; exact hsz)) ⟨ho,DK,?_⟩
   rw [e]
   exact h2 hw
def dy (n d:Nat):Option Int→Nat
 | none=>d
 | some v=>if v < 0 then (v+(n:Int)).toNat else min v.toNat n
theorem El (n d:Nat):dy n d none=d:=rfl
theorem Jn (n d k:Nat):dy n d (some (k:Int))=min k n:=by
 show (if (k:Int) < 0 then ((k:Int)+(n:Int)).toNat else min (k:Int).toNat n)=min k n
 rw [if_neg (by omega),xY]
theorem O3 (n d:Nat) (hd:d≤n) (o:Option Int):dy n d o≤n:=by
 cases o with
 | none=>exact hd
 | some v =>
   show (if v < 0 then (v+(n:Int)).toNat else min v.toNat n)≤n
   by_cases hv:v < 0
   · rw [if_pos hv]; omega
   · rw [if_neg hv]; exact Nat.min_le_right _ _
theorem Ax (v:Int) (n d:Nat):(if v < 0 then max (v+(n:Int)) 0 else min v (n:Int))=((dy n d (some v):Nat):Int):=by
 show (if v < 0 then max (v+(n:Int)) 0 else min v (n:Int))=(((if v < 0 then (v+(n:Int)).toNat else min v.toNat n):Nat):Int)
 by_cases hv:v < 0
 · simp only [if_pos hv]; omega
 · simp only [if_neg hv]; omega
theorem yt (lo hi:Option Int) (n:Nat):Builtin.Slice.sliceAdjust lo hi 1 (n:Int)=(((dy n 0 lo:Nat):Int),((dy n n hi:Nat):Int)):=by
 have h1:¬ ((1:Int) < 0):=by omega
 unfold Builtin.Slice.sliceAdjust
 simp only [h1,if_false]
 refine Prod.ext ?_ ?_
 · cases lo with
   | none=>rfl
   | some v=>exact Ax v n 0
 · cases hi with
   | none=>rfl
   | some v=>exact Ax v n n
theorem yu (i j:Nat):Builtin.Slice.slicePlaces (i:Int) (j:Int) 1=j - i:=by
 unfold Builtin.Slice.slicePlaces
 have h1:(1:Int) > 0:=by omega
 simp only [h1,if_true,Int.ediv_one]
 split <;> omega
theorem oh {v:Value} {o:Option Int} {Q:Option Int→Shared→Prop} (p:IsPart v o) (h:Q o s):wpAny (model prog w) A (Builtin.Slice.slicePartIndex v) Q E s:=by
 cases p with
 | none=>exact slicePart_none h
 | int i t=>exact slicePart_int h
theorem k_ {sl:Addr} {vl vu:Value} {lo hi:Option Int} {n:Nat} {Q:Int×Int×Nat→Shared→Prop} (hs:s.heap.IsSliceOf sl vl vu .none) (pl:IsPart vl lo) (pu:IsPart vu hi)
  (h:Q (((dy n 0 lo:Nat):Int),1,dy n n hi - dy n 0 lo) s):wpAny (model prog w) A (Builtin.Slice.sliceApplied (.ref sl) (pure (n:Int))) Q E s:=by
 obtain ⟨os,T7,hcs,XW⟩:=id hs
 unfold Builtin.Slice.sliceApplied Builtin.Slice.sliceFields
 refine wpAny_bind (wpAny_bind (wpAny_field T7 XW (x:=vl) rfl (wpAny_bind (wpAny_field T7 XW (x:=vu) rfl (wpAny_bind (wpAny_field T7 XW (x:=.none) rfl (wpAny_pure ?_)))))))
 refine wpAny_bind (slicePart_none ?_)
 show wpAny _ _ (if ((1:Int) == 0)=true then _ else _) _ _ s
 rw [if_neg (by decide)]
 refine wpAny_bind (oh pl (wpAny_bind (oh pu (wpAny_bind (wpAny_pure ?_)))))
 show wpAny _ _ (match Builtin.Slice.sliceAdjust lo hi 1 (n:Int) with | (lo,hi)=>pure (lo,(1:Int),Builtin.Slice.slicePlaces lo hi 1)) _ _ s
 rw [yt lo hi n]
 show wpAny _ _ (pure (((dy n 0 lo:Nat):Int),(1:Int),Builtin.Slice.slicePlaces ((dy n 0 lo:Nat):Int) ((dy n n hi:Nat):Int) 1)) _ _ s
 rw [yu]
 exact wpAny_pure h
theorem Em (xs:Array Value) (i k:Nat):((List.range k).filterMap fun (m:Nat)=>xs[((i:Int)+(m:Int) * 1).toNat]?).toArray=((xs.toList.drop i).take k).toArray:=by
 have e:(fun (m:Nat)=>xs[((i:Int)+(m:Int) * 1).toNat]?)=fun m=>xs[i+m]?:=by
  funext m
  have:((i:Int)+(m:Int) * 1).toNat=i+m:=by omega
  rw [this]
 rw [e]
 have:=pick_run xs i k
 rw [List.filterMap_map] at this
 have e2:((fun x=>xs[x]?) ∘ fun x=>i+x)=fun m=>xs[i+m]?:=rfl
 rw [e2] at this
 rw [this]
theorem j_ {t sl:Addr} {items:Array Value} {vl vu:Value} {lo hi:Option Int} {Q:Value→Shared→Prop} (ht:IsTup s.heap t items) (hs:s.heap.IsSliceOf sl vl vu .none) (pl:IsPart vl lo) (pu:IsPart vu hi)
  (hw:¬ (dy items.size 0 lo=0∧dy items.size items.size hi=items.size))
  (h:Q (.ref s.heap.objs.size) { s with heap:=s.heap.push { cls:=.type "tuple",data:=.seq ((items.toList.drop (dy items.size 0 lo)).take (dy items.size items.size hi - dy items.size 0 lo)).toArray } })
  (hsz:items.size≤sizeLine):wpAny (model prog w) A (getItem (.ref t) (.ref sl)) Q E s:=by
 have Ay:sizeOk (.seq ((items.toList.drop (dy items.size 0 lo)).take (dy items.size items.size hi - dy items.size 0 lo)).toArray):=by
  show ((items.toList.drop (dy items.size 0 lo)).take (dy items.size items.size hi - dy items.size 0 lo)).toArray.size≤sizeLine
  rw [gF,Oh,XO,Sz]
  omega
 have hj:dy items.size items.size hi≤items.size:=O3 _ _ (dm _) hi
 obtain ⟨os,T7,hcs,XW⟩:=id hs
 have hTs:s.TypeIs (.ref sl) "slice":=⟨os,T7,hcs⟩
 unfold getItem
 try with_reducible refine wpAny_holding ?_
 first | refine wpAny_bind (wpAny_pure ?_) | skip
 refine wpAny_bind (wpAny_sequenceKey ht.typeIs (by decide) ?_)
 refine wpAny_bind (wpAny_callSpecial?_slot (name:=Str.ofString "__getitem__") ht.typeIs YD
  (wpAny_call_entry YD ht.typeIs entry_tuple_getitem ?_ (args_tuple_getitem _ _)))
 show wpAny _ _ (Builtin.Tuple.tupleItemsOf (.ref t) >>= _) _ _ s
 refine wpAny_bind (tupleItemsOf_ ht ?_)
 refine wpAny_bind (wpAny_typeOf hTs ?_)
 rw [if_pos (by decide)]
 refine wpAny_bind (k_ hs pl pu ?_)
 have hno:¬ ((((dy items.size 0 lo:Nat):Int) == 0 && (1:Int) == 1 && (dy items.size items.size hi - dy items.size 0 lo) == items.size)=true):=by
  intro q
  rw [my,my] at q
  have q1:((dy items.size 0 lo:Nat):Int)=0:=eq_of_beq q.1.1
  have q2:dy items.size items.size hi - dy items.size 0 lo=items.size:=eq_of_beq q.2
  exact hw ⟨by omega,by omega⟩
 show wpAny _ _ (if (((dy items.size 0 lo:Nat):Int) == 0 && (1:Int) == 1 && (dy items.size items.size hi - dy items.size 0 lo) == items.size)=true then _ else _) _ _ s
 rw [if_neg hno,Em]
 first
  | exact wpAny_bind (m:=Builtin.Tuple.tupleExact _) (wpAny_newObj_type (wpAny_pure ⟨_,rfl,wpAny_pure h⟩) Ay)
  | exact wpAny_bind (m:=Builtin.Tuple.tupleExact _) (wpAny_newObj_type (wpAny_bind (wpAny_pure (wpAny_pure ⟨_,rfl,wpAny_pure h⟩))) Ay)
  | exact wpAny_bind (wpAny_bind (m:=Builtin.Tuple.tupleExact _) (wpAny_newObj_type (wpAny_pure (wpAny_pure ⟨_,rfl,wpAny_pure h⟩)) Ay))
  | exact wpAny_bind (wpAny_bind (m:=Builtin.Tuple.tupleExact _) (wpAny_newObj_type (wpAny_pure ⟨_,rfl,wpAny_pure h⟩) Ay))
end
end HT
namespace L2
open PySem PySem.Spec PyProof.Rows
abbrev TO:=St→Hp→(Option Int→Hp→Prop)→Prop
def PO (X:Cx) (e:Option Expr) (t:TO):Prop :=
 ∀ (pins:List (Addr×Obj)) (s:Shared) (σ:St) (H:Hp) (Q:Option Int→Hp→Prop),Inv X pins σ H s→t σ H Q →
  wpAny (model X.prog X.w) X.A (evalPart e X.env) (fun u s'=>∃ o H',Inv X pins σ H' s'∧IsPart u o∧Q o H') X.xe s
def Jo:TO:=fun _ H Q=>Q none H
def T8 (t:TE):TO:=fun σ H Q=>t σ H fun x H1=>∃ i,x = .int i∧Q (some i) H1
section
variable {X:Cx} {e:Expr} {te:TE} {lo hi:Option Expr} {tl th:TO} {pos p2:Pos}
theorem Jp:PO X none Jo:=by
 intro pins s σ H Q I h
 rw [evalPart_none]
 exact wpAny_pure ⟨none,H,I,.none,h⟩
theorem Jq (h:PE X e te):PO X (some e) (T8 te):=by
 intro pins s σ H Q I hw
 rw [evalPart_some]
 refine cm (h pins s σ H _ I hw) fun u s1 ⟨x,H1,I1,r1,q1⟩=>?_
 obtain ⟨i,rfl,q⟩:=q1
 obtain ⟨t,rfl⟩:=r1
 exact ⟨some i,H1,I1,.int i t,q⟩
def Eo (X:Cx) (r:V→Option Int→Option Int→Hp→VK→Prop):Prop :=
 ∀ (pins:List (Addr×Obj)) (s:Shared) (σ:St) (H:Hp) (x:V) (v vl vu:Value) (lo hi:Option Int) (sl:Addr) (Q:VK),Inv X pins σ H s→RelV x v→s.heap.IsSliceOf sl vl vu .none→IsPart vl lo→IsPart vu hi→r x lo hi H Q →
  ∃ T id,typeLookup (.type T) "__getitem__" = pure (some (.builtin id))∧s.TypeIs v T∧wpAny (model X.prog X.w) X.A (getItem v (.ref sl)) (EP X pins σ Q) X.xe s
theorem Eo.or {r r':V→Option Int→Option Int→Hp→VK→Prop} (h:Eo X r) (h':Eo X r'):Eo X (fun x lo hi H Q=>r x lo hi H Q∨r' x lo hi H Q):=by
 intro pins s σ H x v vl vu lo hi sl Q I rx hs pl pu q
 rcases q with q | q
 · exact h pins s σ H x v vl vu lo hi sl Q I rx hs pl pu q
 · exact h' pins s σ H x v vl vu lo hi sl Q I rx hs pl pu q
def tSl (r:V→Option Int→Option Int→Hp→VK→Prop) (te:TE) (tl th:TO):TE:=fun σ H Q=>te σ H fun x H1=>tl σ H1 fun l H2=>th σ H2 fun u H3=>r x l u H3 Q
theorem Ep {r:V→Option Int→Option Int→Hp→VK→Prop} (hr:Eo X r) (he:PE X e te) (hl:PO X lo tl) (hu:PO X hi th):PE X (.Subscript e (.Slice lo hi none p2) pos) (tSl r te tl th):=by
 intro pins s σ H Q I h
 refine Subscript_ (cm (he pins s σ H _ I h) fun v s1 ⟨x,H1,I1,r1,q1⟩=>?_)
 refine wpAny_Slice (cm (hl pins s1 σ H1 _ I1 q1) fun vl s2 ⟨l,H2,I2,pl,q2⟩=>cm (hu pins s2 σ H2 _ I2 q2) fun vu s3 ⟨u,H3,I3,pu,q3⟩=>?_)
 rw [evalPart_none]
 refine wpAny_pure ?_
 have I4:Inv X pins σ H3 { s3 with heap:=s3.heap.push { cls:=.type "slice",data:=.fields #[vl,vu,.none] } }:=I3.kept (t':=s3.toks) fun b ob q=>fH _ q
 obtain ⟨T,id,hT,ht,hg⟩:=hr pins { s3 with heap:=s3.heap.push { cls:=.type "slice",data:=.fields #[vl,vu,.none] } } σ H3 x v vl vu l u s3.heap.objs.size Q I4 r1 (Heap.IsSliceOf.new ..) pl pu q3
 show wpAny (model X.prog X.w) X.A (subscriptTail e (.Slice lo hi none p2) v (.ref s3.heap.objs.size)) (EP X pins σ Q) X.xe { s3 with heap:=s3.heap.push { cls:=.type "slice",data:=.fields #[vl,vu,.none] } }
 exact tail_any (ops:=[.ref s3.heap.objs.size,v]) ht hT hg (by with_unfolding_all rfl)
def vz (xs:List V) (lo hi:Option Int):List V:=(xs.drop (HT.dy xs.length 0 lo)).take (HT.dy xs.length xs.length hi - HT.dy xs.length 0 lo)
theorem mE (xs:List V) (lo hi:Option Int):(vz xs lo hi).length≤xs.length:=by
 unfold vz
 rw [Oh,XO]
 omega
def T9 (K:KFr):V→Option Int→Option Int→Hp→VK→Prop:=fun x lo hi H Q=>∃ a xs,x = .ref a∧dG K H a xs ∧
 ¬ (HT.dy xs.length 0 lo=0∧HT.dy xs.length xs.length hi=xs.length)∧∀ p,H p=none→Q (.ref p) (upd H p (.tup (vz xs lo hi)))
theorem O5:Eo X (T9 X.K):=by
 intro pins s σ H x v vl vu lo hi sl Q I rx hs pl pu h
 obtain ⟨a,xs,rfl,hx,hw,q⟩:=h
 cases rx
 obtain ⟨aP,r,ht,hz⟩:=I.tuple hx
 have hlen:aP.toArray.size=xs.length:=by rw [gF]; exact r.length.symm
 refine ⟨"tuple",_,YD.lookup,ht.typeIs,?_⟩
 refine HT.j_ ht hs pl pu (by rw [hlen]; exact hw) ?_ (by rw [hlen]; exact hz)
 rw [hlen]
 refine ⟨.ref s.heap.objs.size,_,I.laid (t':=s.toks) (o:=.tup (vz xs lo hi)) (fun b ob q=>fH _ q) (dm _) ?_,rfl,q _ (I.cg.fresh (dm _))⟩
 exact ⟨k0 (mE xs lo hi) hz,_,(r.drop (HT.dy xs.length 0 lo)).take (HT.dy xs.length xs.length hi - HT.dy xs.length 0 lo),IsTup.new _ _⟩
theorem Vals.nE {xs:List V} {us:List Value} (r:Vals xs us):us=[]↔xs=[]:=by
 cases r with
 | _=>simp
end
def uZ (n:Nat) (i:Int):Option Nat:=if 0≤i then (if i < n then some i.toNat else none) else if -(n:Int)≤i then some (i+n).toNat else none
def kY {α:Type} (xs:List α) (i:Int):Option α:=(uZ xs.length i).bind fun j=>xs[j]?
theorem Az {n:Nat} {i:Int} {j:Nat} (h:uZ n i=some j):seqIndex? i n=some j∧j < n∧-(n:Int)≤i∧i < n:=by
 unfold uZ at h
 by_cases h0:0≤i
 · rw [if_pos h0] at h
   by_cases h1:i < n
   · rw [if_pos h1] at h
     have e:i.toNat=j:=Option.some.inj h
     exact ⟨by rw [seqIndex_of h0 h1,e],by omega,by omega,h1⟩
   · rw [if_neg h1] at h; cases h
 · rw [if_neg h0] at h
   by_cases h1 : -(n:Int)≤i
   · rw [if_pos h1] at h
     have e:(i+n).toNat=j:=Option.some.inj h
     exact ⟨by rw [seqIndex_neg (by omega) h1,e],by omega,h1,by omega⟩
   · rw [if_neg h1] at h; cases h
theorem sM {α:Type} {xs:List α} {i:Int} {v:α} (h:kY xs i=some v):∃ j,seqIndex? i xs.length=some j∧xs[j]?=some v∧j < xs.length∧-(xs.length:Int)≤i∧i < xs.length:=by
 unfold kY at h
 cases e:uZ xs.length i with
 | none=>rw [e] at h; cases h
 | some j =>
   rw [e] at h
   obtain ⟨h1,h2,h3,h4⟩:=Az e
   exact ⟨j,h1,h,h2,h3,h4⟩
theorem ai {α:Type} {xs:List α} {j:Nat} {v:α} (h:xs[j]?=some v):kY xs (j:Int)=some v:=by
 have hj:j < xs.length:=(fG.mp h).1
 have e:uZ xs.length (j:Int)=some j:=by
  unfold uZ
  rw [if_pos (by omega),if_pos (by omega)]; simp
 unfold kY; rw [e]; exact h
theorem vA {α:Type} (xs:List α) (v:α):kY (xs ++ [v]) (-1)=some v:=by
 have hl:(xs ++ [v]).length=xs.length+1:=by simp
 have e:uZ (xs ++ [v]).length (-1)=some xs.length:=by
  unfold uZ
  rw [hl,if_neg (by decide),if_pos (by omega)]
  congr 1
  omega
 unfold kY
 rw [e]
 show (xs ++ [v])[xs.length]?=some v
 simp
def nF (b:Expr):Prop:=∀ o i,subscripted b false o i=operate [o,i] (getItem o i)
def Jr (X:Cx) (r:R2):Prop :=
 ∀ (value slice:Expr) (pins:List (Addr×Obj)) (s:Shared) (σ:St) (H:Hp) (x y:V) (v u:Value) (Q:VK),Inv X pins σ H s→RelV x v→RelV y u→r x y H Q →
  subscripted slice false v u=operate [v,u] (getItem v u)→wpAny (model X.prog X.w) X.A (subscriptTail value slice v u) (EP X pins σ Q) X.xe s
def MX (X:Cx) (id:String) (r:V→List V→Hp→VK→Prop):Prop :=
 ∀ (pins:List (Addr×Obj)) (s:Shared) (σ:St) (H:Hp) (x:V) (xs:List V) (v:Value) (us:List Value) (Q:VK),Inv X pins σ H s→RelV x v→Vals xs us→r x xs H Q →
  wpAny (model X.prog X.w) X.A (call (.builtin id) (v :: us)) (EP X pins σ Q) X.xe s
section
variable {X:Cx} {a b:Expr} {ta tb:TE} {pos:Pos}
theorem Jr.or {r r':R2} (h:Jr X r) (h':Jr X r'):Jr X (fun x y H Q=>r x y H Q∨r' x y H Q):=by
 intro value slice pins s σ H x y v u Q I rx ry q hs
 rcases q with q | q
 · exact h value slice pins s σ H x y v u Q I rx ry q hs
 · exact h' value slice pins s σ H x y v u Q I rx ry q hs
theorem Er {r:R2} (hr:Jr X r) (ha:PE X a ta) (hb:PE X b tb) (hs:nF b):PE X (.Subscript a b pos) (TM r ta tb):=by
 intro pins s σ H Q I h
 exact Subscript_ (OR ha hb I h fun v u s2 x y H2 I2 rx ry q=>hr a b pins s2 σ H2 x y v u Q I2 rx ry q (hs _ _))
def T_ (K:KFr):R2:=fun x y H Q=>∃ p xs i v,x = .ref p∧y = .int i∧fA K H p xs∧kY xs i=some v∧Q v H
def T' (K:KFr):R2:=fun x y H Q=>∃ p xs i v,x = .ref p∧y = .int i∧dG K H p xs∧kY xs i=some v∧Q v H
def Ua:R2:=fun x y H Q=>∃ z i c,x = .str z∧y = .int i∧z.length≤sizeLine∧kY z.cps.toList i=some c∧Q (.str ⟨#[c]⟩) H
theorem AA:Jr X (T_ X.K):=by
 intro value slice pins s σ H x y v u Q I rx ry h hs
 obtain ⟨p,xs,i,z,rfl,rfl,hq,he,q⟩:=h
 cases rx
 obtain ⟨t,rfl⟩:=ry
 obtain ⟨aP,r,pl,hz⟩:=I.list hq
 obtain ⟨j,h1,h2,h3,h4,h5⟩:=sM he
 obtain ⟨w,ew,rw'⟩:=r.get h2
 have hl:=r.length
 have hn:=k6
 have fin:EP X pins σ Q w s:=⟨z,H,I,rw',q⟩
 by_cases h0:0≤i
 · have hj:i.toNat=j:=by
    rw [seqIndex_of h0 h5] at h1
    exact Option.some.inj h1
   exact item_listR pl.isList h0 (by omega) (by rw [hj]; simpa using ew) fin hs
 · have hj:(i+(aP.toArray.size:Int)).toNat=j:=by
    rw [seqIndex_neg (by omega) h4] at h1
    rw [gF,← hl]
    exact Option.some.inj h1
   exact subscriptTail_builtinR (x:=w) pl.isList.typeIs slot_list_getitem.lookup
    (wpAny_getItem_list_neg (Q:=fun r s'=>r=w∧EP X pins σ Q r s') pl.isList (by omega) (by rw [gF] <;> omega) (by omega) (by rw [hj]; simpa using ew) ⟨rfl,fin⟩) hs
theorem Es:Jr X (T' X.K):=by
 intro value slice pins s σ H x y v u Q I rx ry h hs
 obtain ⟨p,xs,i,z,rfl,rfl,hq,he,q⟩:=h
 cases rx
 obtain ⟨t,rfl⟩:=ry
 obtain ⟨aP,r,pl,hz⟩:=I.tuple hq
 obtain ⟨j,h1,h2,h3,h4,h5⟩:=sM he
 obtain ⟨w,ew,rw'⟩:=r.get h2
 have hl:=r.length
 have hn:=k6
 have fin:EP X pins σ Q w s:=⟨z,H,I,rw',q⟩
 exact subscriptTail_builtinR (x:=w) pl.typeIs slot_tuple_getitem.lookup
  (getItem_tuple (j:=j) (Q:=fun r s'=>r=w∧EP X pins σ Q r s') pl (by omega) (by omega) (by rw [gF,← hl]; exact h1) (by simpa using ew) ⟨rfl,fin⟩) hs
theorem O6:Jr X Ua:=by
 intro value slice pins s σ H x y v u Q I rx ry h hs
 obtain ⟨z,i,c,rfl,rfl,hz,he,q⟩:=h
 obtain ⟨t,rfl⟩:=rx
 obtain ⟨t',rfl⟩:=ry
 obtain ⟨j,h1,h2,h3,h4,h5⟩:=sM he
 have hl:z.cps.toList.length=z.length:=by simp [Str.length]
 rw [hl] at h1 h4 h5
 have hn:=k6
 exact tail_any (typeIs_str s z t) slot_str_getitem.lookup (getItem_str (c:=c) (by
  have e1:decide (i < -(2 ^ 63:Int))=false:=decide_eq_false (by omega)
  have e2:decide (i ≥ 2 ^ 63)=false:=decide_eq_false (by omega)
  rw [e1,e2,Bool.or_false]) (by rw [h1]; simpa using h2) ⟨.str ⟨#[c]⟩,H,I.tok _,⟨_,rfl⟩,q⟩) hs
def rIx (K:KFr):R2:=fun x y H Q=>T_ K x y H Q∨T' K x y H Q∨Ua x y H Q
theorem O7:Jr X (rIx X.K):=AA.or (Es.or O6)
theorem yw (aP:List Value) (n j:Nat) (u:Value):Obj.mapSeq (·.setIfInBounds j u) { cls:=.type "list",data:=.seq aP.toArray n }={ cls:=.type "list",data:=.seq (aP.set j u).toArray n }:=by
 simp [Obj.mapSeq]
theorem Inv.lst {pins:List (Addr×Obj)} {σ:St} {H:Hp} {s:Shared} {p:Addr} {xs:List V} (I:Inv X pins σ H s) (h:H p=some (.lst xs)) :
  ∃ (aP:List Value) (n:Nat),Vals xs aP∧s.heap.get? p=some { cls:=.type "list",data:=.seq aP.toArray n }∧xs.length≤sizeLine:=by
 obtain ⟨z,aP,n,r,e⟩:=I.cg p _ h
 exact ⟨aP,n,r,e,z⟩
theorem Inv.O8 {pins:List (Addr×Obj)} {σ:St} {H:Hp} {s:Shared} {p:Addr} {xs ys:List V} {aP its':List Value} {n n':Nat} {f:Obj→Obj} (I:Inv X pins σ H s) (h:H p=some (.lst xs))
  (ho:s.heap.get? p=some { cls:=.type "list",data:=.seq aP.toArray n }) (hf:f { cls:=.type "list",data:=.seq aP.toArray n }={ cls:=.type "list",data:=.seq its'.toArray n' }) (r:Vals ys its') (hz:ys.length≤sizeLine) (t:Nat) :
  Inv X pins σ (upd H p (.lst ys)) { s with heap:=s.heap.update p f,toks:=t }:=by
 have e:(s.heap.update p f).get? p=some { cls:=.type "list",data:=.seq its'.toArray n' }:=by
  rw [Heap.get?_update_self f ho (by rw [hf] <;> rfl),hf]
 refine I.write (x:=p) (e:=p) (by rw [h]; trivial) (.inl rfl) (fun b u hb q=>(Heap.get?_update_other _ _ (Ne.symm hb)).trans q) ⟨_,e⟩ ?_
 exact ⟨hz,its',n',r,e⟩
def Ub:V→V→V→Hp→(Hp→Prop)→Prop:=fun o i v H Q=>∃ p xs k j,o = .ref p∧i = .int k∧H p=some (.lst xs)∧uZ xs.length k=some j∧Q (upd H p (.lst (xs.set j v)))
theorem set_list:Tz X Ub:=by
 intro pins s σ H o i v ov iv u Q I ro ri rv h
 obtain ⟨p,xs,k,j,rfl,rfl,hp,hj,q⟩:=h
 cases ro
 obtain ⟨t,rfl⟩:=ri
 obtain ⟨aP,n,r,ho,hz⟩:=I.lst hp
 obtain ⟨h1,h2,h3,h4⟩:=Az hj
 have hl:=r.length
 have hn:=k6
 have I':Inv X pins σ (upd H p (.lst (xs.set j v))) { s with heap:=s.heap.update p (Obj.mapSeq (·.setIfInBounds j u)) } :=
  I.O8 hp ho (yw aP n j u) (r.set rv j) (by rw [ID]; exact hz) s.toks
 by_cases h0:0≤k
 · have hk:k.toNat=j:=by
    rw [seqIndex_of h0 h4] at h1
    exact Option.some.inj h1
   exact PySem.W.ki_setAt ho h0 (by omega) (by rw [gF,← hl]; exact h4) (by rw [hk]; exact ⟨_,I',q⟩)
 · have hk:(k+(aP.toArray.size:Int)).toNat=j:=by
    rw [seqIndex_neg (by omega) h3] at h1
    rw [gF,← hl]
    exact Option.some.inj h1
   exact PySem.W.ki_setBack ho (by omega) (by rw [gF,← hl]; exact h3) (by omega) (by rw [hk]; exact ⟨_,I',q⟩)
theorem sN (lo hi:Option Int) (n:Nat):(sliceBounds lo hi none n).1=((HT.dy n 0 lo:Nat):Int)∧(sliceBounds lo hi none n).2.1=((HT.dy n n hi:Nat):Int)∧(sliceBounds lo hi none n).2.2=1:=by
 refine ⟨?_,?_,rfl⟩
 · cases lo with
   | none=>simp [sliceBounds,HT.dy]
   | some i =>
     simp only [sliceBounds,HT.dy,Option.getD_none,show (1:Int) > 0 by decide,if_true]
     by_cases h:i < 0
     · simp only [h,if_true] <;> omega
     · simp only [h,if_false] <;> omega
 · cases hi with
   | none=>simp [sliceBounds,HT.dy]
   | some i =>
     simp only [sliceBounds,HT.dy,Option.getD_none,show (1:Int) > 0 by decide,if_true]
     by_cases h:i < 0
     · simp only [h,if_true] <;> omega
     · simp only [h,if_false] <;> omega
theorem qo (aP:List Value) (lo hi:Option Int):slicePick aP.toArray lo hi none=((aP.drop (HT.dy aP.length 0 lo)).take (HT.dy aP.length aP.length hi - HT.dy aP.length 0 lo)).toArray:=by
 obtain ⟨h1,h2,h3⟩:=sN lo hi aP.toArray.size
 unfold slicePick
 rw [h1,h2,h3]
 simp only [sliceRange_one,pick_run,gF] <;> rfl
def Uc (K:KFr):V→Option Int→Option Int→Hp→VK→Prop:=fun x lo hi H Q=>∃ a xs,x = .ref a∧fA K H a xs∧∀ p,H p=none→Q (.ref p) (upd H p (.lst (vz xs lo hi)))
theorem Js:Eo X (Uc X.K):=by
 intro pins s σ H x v vl vu lo hi sl Q I rx hs pl pu h
 obtain ⟨a,xs,rfl,hx,q⟩:=h
 cases rx
 obtain ⟨aP,r,ht,hz⟩:=I.list hx
 have hlen:=r.length
 refine ⟨"list",_,slot_list_getitem.lookup,ht.isList.typeIs,?_⟩
 refine wpAny_getItem_list_slice ht.isList hs pl pu .none (by simp) ?_ (by rw [gF] <;> omega)
 rw [qo,← hlen]
 refine ⟨.ref s.heap.objs.size,_,I.laid (t':=s.toks) (o:=.lst (vz xs lo hi)) (fun b ob q=>fH _ q) (dm _) ?_,rfl,q _ (I.cg.fresh (dm _))⟩
 exact ⟨k0 (mE xs lo hi) hz,_,0,(r.drop (HT.dy xs.length 0 lo)).take (HT.dy xs.length xs.length hi - HT.dy xs.length 0 lo),mZ _ rfl⟩
def iq:V→Bool
 | .aT=>true
 | .bl _=>true
 | .int _=>true
 | .str _=>true
 | _=>false
def IJ:V→V→Bool
 | .aT,.aT=>true
 | .bl a,.bl b=>a == b
 | .bl a,.int b=>(if a then 1 else 0) == b
 | .int a,.bl b=>a == (if b then 1 else 0)
 | .int a,.int b=>a == b
 | .str a,.str b=>a == b
 | _,_=>false
theorem O9 {A:Around} {s:Shared} {y x:V} {u v:Value} (ry:RelV y u) (rx:RelV x v) (fy:iq y=true) (fx:iq x=true):SeqAt.EqAt A s u v (IJ y x):=by
 cases y with
 | aT =>
   cases ry
   cases x with
   | aT=>cases rx; exact SeqAt.EqAt.same _
   | bl b=>cases rx; exact SeqAt.EqAt.none_bool b
   | int b=>obtain ⟨t,rfl⟩:=rx; exact SeqAt.EqAt.none_int b t
   | str b=>obtain ⟨t,rfl⟩:=rx; exact SeqAt.EqAt.none_str b t
   | _=>exact absurd (show false=true from fx) eC
 | bl a =>
   cases ry
   cases x with
   | aT=>cases rx; exact SeqAt.EqAt.bool_none a
   | bl b=>cases rx; exact SeqAt.EqAt.bool_bool a b
   | int b=>obtain ⟨t,rfl⟩:=rx; exact SeqAt.EqAt.bool_int a b t
   | str b=>obtain ⟨t,rfl⟩:=rx; exact SeqAt.EqAt.bool_str a b t
   | _=>exact absurd (show false=true from fx) eC
 | int a =>
   obtain ⟨t',rfl⟩:=ry
   cases x with
   | aT=>cases rx; exact SeqAt.EqAt.int_none a t'
   | bl b=>cases rx; exact SeqAt.EqAt.int_bool a t' b
   | int b=>obtain ⟨t,rfl⟩:=rx; exact SeqAt.EqAt.int_int a t' b t
   | str b=>obtain ⟨t,rfl⟩:=rx; exact SeqAt.EqAt.int_str a t' b t
   | _=>exact absurd (show false=true from fx) eC
 | str a =>
   obtain ⟨t',rfl⟩:=ry
   cases x with
   | aT=>cases rx; exact SeqAt.EqAt.str_none a t'
   | bl b=>cases rx; exact SeqAt.EqAt.str_bool a t' b
   | int b=>obtain ⟨t,rfl⟩:=rx; exact SeqAt.EqAt.str_int a t' b t
   | str b=>obtain ⟨t,rfl⟩:=rx; exact SeqAt.EqAt.str_str a t' b t
   | _=>exact absurd (show false=true from fx) eC
 | _=>exact absurd (show false=true from fy) eC
def Jt (x:V) (u:Value):Bool:=match u with
 | .none=>IJ .aT x
 | .bool b=>IJ (.bl b) x
 | .int i _=>IJ (.int i) x
 | .str z _=>IJ (.str z) x
 | _=>false
theorem Et {x y:V} {u:Value} (r:RelV y u) (f:iq y=true):Jt x u=IJ y x:=by
 cases y with
 | aT=>cases r; rfl
 | bl b=>cases r; rfl
 | int i=>obtain ⟨t,rfl⟩:=r; rfl
 | str z=>obtain ⟨t,rfl⟩:=r; rfl
 | _=>exact absurd (show false=true from f) eC
theorem sO {x:V}:∀ {xs:List V} {us:List Value},Vals xs us→xs.all iq=true→us.any (Jt x)=xs.any fun y=>IJ y x
 | _,_,.nil,_=>rfl
 | y :: xs,u :: us,.cons r t,f=>by
   rw [List.all_cons,my] at f
   rw [IF,IF,Et r f.1,sO t f.2]
theorem oi {A:Around} {s:Shared} {x:V} {v:Value} (rx:RelV x v) (fx:iq x=true):∀ {xs:List V} {us:List Value},Vals xs us→xs.all iq=true→∀ u∈us,SeqAt.EqAt A s u v (Jt x u)
 | _,_,.nil,_=>fun u hu=>by cases hu
 | y :: xs,u :: us,.cons r t,f=>fun u' hu=>by
   rw [List.all_cons,my] at f
   rcases cY.mp hu with rfl | hu
   · rw [Et r f.1]; exact O9 r rx f.1 fx
   · exact oi rx fx t f.2 u' hu
def XY (x:V) (xs:List V):Bool:=xs.any fun y=>IJ y x
def rIn (K:KFr) (neg:Bool):R2:=fun x y H Q=>∃ p xs,y = .ref p∧(fA K H p xs∨dG K H p xs)∧iq x=true∧xs.all iq=true∧Q (.bl (if neg then !XY x xs else XY x xs)) H
theorem BU:fu X (compareOp .In) (rIn X.K false):=by
 intro pins s σ H x y v u Q I rx ry h
 obtain ⟨p,xs,rfl,hq,fx,fs,q⟩:=h
 cases ry
 rcases hq with hq | hq
 · obtain ⟨aP,r,pl,hz⟩:=I.list hq
   refine SeqAt.in_listAt (Jt x) pl.isList (fun w hw=>oi rx fx r fs w (by simpa using hw)) ⟨.bl _,H,I,rfl,?_⟩
   rw [show aP.toArray.any (Jt x)=aP.any (Jt x) by simp,sO r fs]
   exact q
 · obtain ⟨aP,r,pl,hz⟩:=I.tuple hq
   refine SeqAt.in_tupleAt (Jt x) pl (fun w hw=>oi rx fx r fs w (by simpa using hw)) ⟨.bl _,H,I,rfl,?_⟩
   rw [show aP.toArray.any (Jt x)=aP.any (Jt x) by simp,sO r fs]
   exact q
theorem sP:dA X (.builtin "len") (fun xs H Q=>∃ p ys,xs=[.ref p]∧(fA X.K H p ys∨dG X.K H p ys)∧Q (.int ys.length) H):=by
 intro pins s σ H xs us Q I r h
 obtain ⟨p,ys,rfl,hq,q⟩:=h
 obtain ⟨u,rfl,rx⟩:=vals1 r
 cases rx
 have hn:=k6
 rcases hq with hq | hq
 · obtain ⟨aP,r',pl,hz⟩:=I.list hq
   have hlen:=r'.length
   exact Calls.call_len_list pl.isList (by simp only [gF] <;> omega) ⟨.int ys.length,H,I.tok _,⟨s.toks+1,by rw [gF,hlen]⟩,q⟩
 · obtain ⟨aP,r',pl,hz⟩:=I.tuple hq
   have hlen:=r'.length
   exact len_tuple pl (by simp only [gF] <;> omega) ⟨.int ys.length,H,I.tok _,⟨s.toks+1,by rw [gF,hlen]⟩,q⟩
theorem sQ:dA X (.builtin "len") (fun xs H Q=>∃ z,xs=[.str z]∧z.length≤sizeLine∧Q (.int z.length) H):=by
 intro pins s σ H xs us Q I r h
 obtain ⟨z,rfl,hz,q⟩:=h
 obtain ⟨u,rfl,t,rfl⟩:=vals1 r
 have hn:=k6
 exact len_str (by omega) ⟨.int z.length,H,I.tok _,⟨_,rfl⟩,q⟩
theorem dA.or {f:Value} {r r':List V→Hp→VK→Prop} (h:dA X f r) (h':dA X f r'):dA X f (fun xs H Q=>r xs H Q∨r' xs H Q):=by
 intro pins s σ H xs us Q I rs q
 rcases q with q | q
 · exact h pins s σ H xs us Q I rs q
 · exact h' pins s σ H xs us Q I rs q
theorem dB:dA X (.type "list") (fun xs H Q=>∃ p ys,xs=[.ref p]∧(fA X.K H p ys∨dG X.K H p ys)∧∀ l,H l=none→Q (.ref l) (upd H l (.lst ys))):=by
 intro pins s σ H xs us Q I r h
 obtain ⟨p,ys,rfl,hq,q⟩:=h
 obtain ⟨u,rfl,rx⟩:=vals1 r
 cases rx
 have fin:∀ (aP:List Value),Vals ys aP→ys.length≤sizeLine→∀ (h':Heap) (c':Nat),(∀ b o',s.heap.get? b=some o'→h'.get? b=some o') →
   h'.get? s.heap.objs.size=some { cls:=.type "list",dict:=none,data:=.seq aP.toArray c',slots:=#[] }→EP X pins σ Q (.ref s.heap.objs.size) { s with heap:=h' }:=fun aP r' hz h' c' kp e =>
  ⟨.ref s.heap.objs.size,_,I.laid (t':=s.toks) kp (dm _) (show cw X.prog X.w _ h' _ (.lst ys) from ⟨hz,aP,c',r',e⟩),rfl,q _ (I.cg.fresh (dm _))⟩
 rcases hq with hq | hq
 · obtain ⟨aP,r',pl,hz⟩:=I.list hq
   have hlen:=r'.length
   obtain ⟨o,ho,hc,n,hd⟩:=pl.isList
   exact call_list_seq p (.inl rfl) ho hc hd (fun h' c' kp e=>fin aP r' hz h' c' kp e) (by simp only [gF] <;> omega)
 · obtain ⟨aP,r',pl,hz⟩:=I.tuple hq
   have hlen:=r'.length
   obtain ⟨o,ho,hc,n,hd⟩:=pl
   exact call_list_seq p (.inr rfl) ho hc hd (fun h' c' kp e=>fin aP r' hz h' c' kp e) (by simp only [gF] <;> omega)
theorem fU:dA X (.type "tuple") (fun xs H Q=>∃ p ys,xs=[.ref p]∧((fA X.K H p ys∧∀ l,H l=none→Q (.ref l) (upd H l (.tup ys)))∨(dG X.K H p ys∧Q (.ref p) H))):=by
 intro pins s σ H xs us Q I r h
 obtain ⟨p,ys,rfl,h⟩:=h
 obtain ⟨u,rfl,rx⟩:=vals1 r
 cases rx
 rcases h with ⟨hq,q⟩ | ⟨hq,q⟩
 · obtain ⟨aP,r',pl,hz⟩:=I.list hq
   have hlen:=r'.length
   refine call_tuple_list pl.isList (fun h' kp=>?_) (by simp only [gF] <;> omega)
   have I1:Inv X pins σ H { s with heap:=h' }:=I.kept (t':=s.toks) kp
   have I2:Inv X pins σ (upd H h'.objs.size (.tup ys)) { s with heap:=h'.push { cls:=.type "tuple",data:=.seq aP.toArray } } :=
    I1.laid (t':=s.toks) (fun b o e=>fH _ e) (dm _) (show cw X.prog X.w _ _ _ (.tup ys) from ⟨hz,aP,r',IsTup.new _ _⟩)
   exact ⟨.ref h'.objs.size,_,I2,rfl,q _ (I1.cg.fresh (dm _))⟩
 · obtain ⟨aP,r',pl,hz⟩:=I.tuple hq
   exact call_tuple_same pl ⟨.ref p,H,I,rfl,q⟩
def Zn (K:KFr) (T:String) (x:V) (H:Hp):Prop:=match x with
 | .str _=>T="str"
 | .int _=>T="int"
 | .ref p=>(T="list"∧∃ xs,fA K H p xs)∨(T="tuple"∧∃ o,K.lookup p=some o∧o.cls = .type "tuple"∧o.dict=none) ∨
    (T="dict"∧((∃ aY,H p=some (.dK aY))∨∃ aY,H p=some (.dT aY)))∨(T="set"∧∃ S n,H p=some (.set S n))
 | _=>False
theorem Eu {pins:List (Addr×Obj)} {σ:St} {H:Hp} {s:Shared} {T:String} {x:V} {v:Value} (I:Inv X pins σ H s) (r:RelV x v) (ty:Zn X.K T x H) :
  s.TypeIs v T∧∀ a,v = .ref a→∃ ob,s.heap.get? a=some ob∧ob.dict=none:=by
 cases x with
 | str z =>
   obtain ⟨t,rfl⟩:=r
   cases (show T="str" from ty)
   exact ⟨typeIs_str s z t,fun _ e=>nomatch e⟩
 | int i =>
   obtain ⟨t,rfl⟩:=r
   cases (show T="int" from ty)
   exact ⟨typeIs_int s i t,fun _ e=>nomatch e⟩
 | ref p =>
   cases r
   rcases ty with ⟨rfl,xs,hq⟩ | ⟨rfl,o,hk,hc,hd⟩ | ⟨rfl,hk⟩ | ⟨rfl,S,n,hk⟩
   · obtain ⟨aP,_,pl,_⟩:=I.list hq
     refine ⟨pl.isList.typeIs,fun a e=>?_⟩
     cases e
     obtain ⟨o,n,e,c,hd,_⟩:=pl
     exact ⟨o,e,hd⟩
   · refine ⟨⟨o,I.qk p o hk,hc⟩,fun a e=>?_⟩
     cases e
     exact ⟨o,I.qk _ o hk,hd⟩
   · have z:∃ o,s.heap.get? p=some o∧o.ExactDict:=by
      rcases hk with ⟨aY,hk⟩ | ⟨aY,hk⟩
      · obtain ⟨_,_,_,_,o,_,_,e,ex,_⟩:=I.cg p _ hk
        exact ⟨o,e,ex⟩
      · obtain ⟨_,_,_,_,o,_,_,e,ex,_⟩:=I.cg p _ hk
        exact ⟨o,e,ex⟩
     obtain ⟨o,e,ex⟩:=z
     refine ⟨⟨o,e,ex.1⟩,fun a e2=>?_⟩
     cases e2
     exact ⟨o,e,ex.2.1⟩
   · obtain ⟨o,_,_,_,e,ex,_⟩:=I.cg p _ hk
     refine ⟨⟨o,e,ex.1⟩,fun a e2=>?_⟩
     cases e2
     exact ⟨o,e,ex.2.1⟩
 | _=>exact False.elim ty
def Zo (K:KFr) (T:String) (r:V→List V→Hp→VK→Prop) (to:TE):TE:=fun σ H Q=>to σ H fun x H1=>Zn K T x H1∧r x [] H1 Q
def tBM (K:KFr) (T:String) (r:V→List V→Hp→VK→Prop) (to:TE) (t:TA):TE:=fun σ H Q=>to σ H fun x H1=>Zn K T x H1∧t σ H1 fun xs H2=>r x xs H2 Q
variable {o e:Expr} {es:List Expr} {to:TE} {t:TA} {name:Str} {apos aW:Pos} {T id:String} {r:V→List V→Hp→VK→Prop}
theorem sR (pa:PlainAttrs T) (slot:Slot T name id) (O_:typeOf (.builtin id)=pure (.type "method_descriptor")) (hm:MX X id r) (ho:PE X o to)
  (c7:attributeBase o name X.env (eval o X.env)=eval o X.env:=by rfl) (c8:(apos.endLine == aW.line)=true:=by rfl):PE X (.Call (.Attribute o name apos) [] [] aW) (Zo X.K T r to):=by
 intro pins s σ H Q I h
 refine wpAny_Call_method0_late c7 c8 (cm (ho pins s σ H _ I h) fun v s1 ⟨x,H1,I1,r1,ty,q1⟩=>?_)
 obtain ⟨h1,h2⟩:=Eu I1 r1 ty
 exact ⟨T,id,pa,slot,O_,h1,h2,XA rfl (PySem.evalArgs_none (hm pins s1 σ H1 x [] v [] Q I1 r1 .nil q1))⟩
theorem rD (pa:PlainAttrs T) (slot:Slot T name id) (O_:typeOf (.builtin id)=pure (.type "method_descriptor")) (hm:MX X id r) (ho:PE X o to) (ha:PA X (e :: es) t)
  (c7:attributeBase o name X.env (eval o X.env)=eval o X.env:=by rfl)
  (la:((backTo aW (starEach (e :: es) X.env)).all (fun x=>!x.1) && (backToKw aW (keywordEach [] X.env)).all (fun x=>x.1.isSome)
    && decide ((e :: es).length+([]:List Keyword).length+(if ([]:List Keyword).isEmpty then 0 else 1) < 30))=true:=by rfl)
  (c8:(apos.endLine == aW.line)=true:=by rfl) (hs:starEach (e :: es) X.env=(false,eval e X.env) :: starEach es X.env:=by rfl) (dP:(backTo aW (starEach es X.env)).any (·.1)=false:=by rfl) :
  PE X (.Call (.Attribute o name apos) (e :: es) [] aW) (tBM X.K T r to t):=by
 intro pins s σ H Q I h
 refine wpAny_Call_method_late c7 la c8 rfl (cm (ho pins s σ H _ I h) fun v s1 ⟨x,H1,I1,r1,ty,q1⟩=>?_)
 obtain ⟨h1,h2⟩:=Eu I1 r1 ty
 refine ⟨T,id,pa,slot,O_,h1,h2,?_⟩
 have hA:=ha aW pins s1 σ H1 _ I1 q1
 rw [hs] at hA ⊢
 refine XA (by show (false || (backTo aW (starEach es X.env)).any (·.1))=false; rw [dP] <;> rfl) (Calls.evalArgs_plain ?_)
 exact cm hA fun us s2 ⟨vs,H2,I2,r2,q2⟩=>hm pins s2 σ H2 x vs v us Q I2 r1 r2 q2
end
def Zp (X:Cx) (id:String) (r:V→List V→Hp→VK→Prop):Prop :=
 ∀ (pins:List (Addr×Obj)) (s:Shared) (σ:St) (H:Hp) (x:V) (xs:List V) (v:Value) (us:List Value) (Q:VK),Inv X pins σ H s→RelV x v→Vals xs us→r x xs H Q →
  wpAny (model X.prog X.w) X.A (call (.builtin id) (v :: us)) (EP X pins σ Q) X.xe s
theorem Vals.one:∀ {x:V} {us:List Value},Vals [x] us→∃ u,us=[u]∧RelV x u
 | _,_,.cons r .nil=>⟨_,rfl,r⟩
theorem Vals.zero:∀ {us:List Value},Vals [] us→us=[]
 | _,.nil=>rfl
theorem Vals.dropLast {xs:List V} {us:List Value} (h:Vals xs us):Vals xs.dropLast us.dropLast:=by
 induction h with
 | nil=>exact .nil
 | cons r t ih =>
   cases t with
   | nil=>exact .nil
   | cons q t'=>exact .cons r ih
theorem Vals.rep {xs:List V} {us:List Value} (h:Vals xs us):∀ k:Nat,Vals (List.replicate k xs).flatten (List.replicate k us).flatten
 | 0=>.nil
 | k+1=>by
   rw [Ao,Ao,My,My]
   exact Vals.append h (Vals.rep h k)
theorem yx {α:Type} (l:List α):l.eraseIdx (l.length - 1)=l.dropLast:=by
 induction l with
 | nil=>rfl
 | cons a r ih =>
   cases r with
   | nil=>rfl
   | cons b r =>
     have e:(a :: b :: r).length - 1=((b :: r).length - 1)+1:=by
      have h1:(a :: b :: r).length=r.length+2:=rfl
      have h2:(b :: r).length=r.length+1:=rfl
      omega
     rw [e,List.eraseIdx_cons_succ,ih]
     all_goals rfl
theorem foldl_rep (aP:List Value):∀ (k:Nat) (acc:List Value),
  List.foldl (fun x1 x2=>x1 ++ x2) acc.toArray (List.replicate k aP.toArray)=(acc ++ (List.replicate k aP).flatten).toArray
 | 0,acc=>by simp
 | k+1,acc=>by
   have e:acc.toArray ++ aP.toArray=(acc ++ aP).toArray:=by simp
   have e2:(acc ++ aP) ++ (List.replicate k aP).flatten=acc ++ (List.replicate (k+1) aP).flatten:=by
    rw [Ao,My,XN]
   rw [← e2,← foldl_rep aP k (acc ++ aP),← e,Ao,List.foldl_cons]
section
variable {X:Cx} {pins:List (Addr×Obj)} {σ:St} {H:Hp} {s:Shared} {l b:Addr} {xs ys zs:List V}
theorem Inv.Pa {aP its':List Value} {n:Nat} {f:Array Value→Array Value} {t':Nat} (I:Inv X pins σ H s) (hH:H l=some (.lst xs))
  (e:s.heap.get? l=some { cls:=.type "list",data:=.seq aP.toArray n }) (hf:f aP.toArray=its'.toArray) (hv:Vals ys its') (hz:ys.length≤sizeLine) :
  Inv X pins σ (upd H l (.lst ys)) { s with heap:=s.heap.update l (Obj.mapSeq f),toks:=t' }:=by
 have q:=PySem.IsL.update e f
 rw [hf] at q
 refine I.write (x:=l) (e:=l) (by rw [hH]; exact trivial) (.inl rfl) (fun b' u hb hu=>(Heap.get?_update_other s.heap (Obj.mapSeq f) (Ne.symm hb)).trans hu) ⟨_,q⟩ ?_
 exact ⟨hz,its',_,hv,q⟩
theorem Inv.Ud {aP:List Value} {t':Nat} (I:Inv X pins σ H s) (hv:Vals ys aP) (hz:ys.length≤sizeLine) :
  Inv X pins σ (upd H s.heap.objs.size (.lst ys)) { s with heap:=s.heap.push { cls:=.type "list",data:=.seq aP.toArray },toks:=t' } :=
 I.laid (fun _ _ q=>fH _ q) (dm _) ⟨hz,aP,0,hv,mZ _ rfl⟩
theorem Inv.fresh (I:Inv X pins σ H s):H s.heap.objs.size=none:=I.cg.fresh (dm _)
theorem Inv.Ju (I:Inv X pins σ H s) (hH:H l=some (.lst xs)):xs.length≤sizeLine∧∃ (aP:List Value) (n:Nat),Vals xs aP∧xs.length=aP.length∧s.heap.get? l=some { cls:=.type "list",data:=.seq aP.toArray n }:=by
 obtain ⟨z,aP,n,r,e⟩:=I.cg l _ hH
 exact ⟨z,aP,n,r,r.length,e⟩
theorem Ew {n:Nat} (h:n≤sizeLine):Builtin.List.listTooLong n=false:=by
 unfold Builtin.List.listTooLong
 exact decide_eq_false (by omega)
end
section
variable {X:Cx}
def AB:V→List V→Hp→VK→Prop:=fun x vs H Q=>∃ l xs y,x = .ref l∧vs=[y]∧H l=some (.lst xs)∧xs.length < sizeLine∧Q .aT (upd H l (.lst (xs ++ [y])))
theorem cZ:Zp X "list.append" AB:=by
 intro pins s σ H x vs v us Q I rx rv h
 obtain ⟨l,xs,y,rfl,rfl,hH,hz,q⟩:=h
 cases rx
 obtain ⟨u,rfl,ru⟩:=rv.one
 obtain ⟨z,aP,n,r,hl,e⟩:=I.Ju hH
 refine call_meets F.slot_list_append ⟨_,e,rfl⟩ F.entry_list_append (F.args_list_append_2 _ _) (PySem.list_append l aP.toArray n u (by rw [gF]; omega)) ⟨e,?_⟩
 refine ⟨.aT,_,I.Pa (its':=aP ++ [u]) hH e (by simp) (r.append (.cons ru .nil)) ?_,rfl,q⟩
 rw [uY,List.length_singleton]
 omega
def Ue:V→List V→Hp→VK→Prop:=fun x vs H Q=>∃ l xs y,x = .ref l∧vs=[]∧H l=some (.lst xs)∧xs[xs.length - 1]?=some y∧Q y (upd H l (.lst xs.dropLast))
theorem Ex:Zp X "list.pop" Ue:=by
 intro pins s σ H x vs v us Q I rx rv h
 obtain ⟨l,xs,y,rfl,rfl,hH,hy,q⟩:=h
 cases rx
 have BV:=rv.zero
 subst BV
 obtain ⟨z,aP,n,r,hl,e⟩:=I.Ju hH
 obtain ⟨u,hu,ru⟩:=r.get hy
 have hy':aP.toArray[aP.toArray.size - 1]?=some u:=by
  show aP.toArray[aP.length - 1]?=some u
  rw [← Array.getElem?_toList,← hl]
  exact hu
 refine call_meets F.slot_list_pop ⟨_,e,rfl⟩ F.entry_list_pop (F.args_list_pop_1 _) (MeetsSeq.list_pop_last l aP.toArray n u hy' (by rw [gF]; omega)) ⟨e,?_⟩
 refine ⟨y,_,I.Pa (its':=aP.dropLast) hH e ?_ r.dropLast ?_,ru,q⟩
 · show aP.toArray.eraseIdxIfInBounds (aP.toArray.size - 1)=aP.dropLast.toArray
   rw [gF,List.eraseIdxIfInBounds_toArray,yx]
 · rw [Te]
   omega
def Pb:V→List V→Hp→VK→Prop:=fun x vs H Q=>∃ l xs,x = .ref l∧vs=[]∧H l=some (.lst xs)∧Q .aT (upd H l (.lst []))
theorem Ey:Zp X "list.clear" Pb:=by
 intro pins s σ H x vs v us Q I rx rv h
 obtain ⟨l,xs,rfl,rfl,hH,q⟩:=h
 cases rx
 have BV:=rv.zero
 subst BV
 obtain ⟨z,aP,n,r,hl,e⟩:=I.Ju hH
 refine call_meets F.slot_list_clear ⟨_,e,rfl⟩ F.entry_list_clear (F.args_list_clear_1 _) (AutoSeq1.list_clear_list_0 l aP.toArray n (by rw [gF]; omega)) ⟨e,?_⟩
 exact ⟨.aT,_,I.Pa (its':=[]) (ys:=[]) hH e rfl .nil (jw _),rfl,q⟩
def Zq:R2:=fun x y H Q=>∃ l k xs,x = .ref l∧y = .int k∧H l=some (.lst xs)∧-(2 ^ 63)≤k∧k < 2 ^ 63∧xs.length * k.toNat≤sizeLine ∧
 ∀ p,H p=none→Q (.ref p) (upd H p (.lst (List.replicate k.toNat xs).flatten))
theorem len_rep {α:Type} (xs:List α) (k:Nat):(List.replicate k xs).flatten.length=k * xs.length:=by
 induction k with
 | zero=>simp
 | succ k ih=>rw [Ao,My,uY,ih,Nat.succ_mul,Nat.add_comm]
theorem Pc:fu X (binaryOp .Mult) Zq:=by
 intro pins s σ H x y v u Q I rx ry h
 obtain ⟨l,k,xs,rfl,rfl,hH,h1,h2,hz,q⟩:=h
 cases rx
 obtain ⟨t,rfl⟩:=ry
 obtain ⟨z,aP,n,r,hl,e⟩:=I.Ju hH
 have hlen:aP.toArray.size * k.toNat≤sizeLine:=by rw [gF,← hl]; exact hz
 have Zr:¬ aP.toArray.size * k.toNat > (2 ^ 63 - 1) / 8:=by
  have:(sizeLine:Nat)≤(2 ^ 63 - 1) / 8:=by decide
  omega
 have Zs:¬ (!Builtin.List.listFitsIndex k)=true:=by
  rw [fitsIndex_both h1 h2]
  exact eC
 have Ug:¬ Builtin.List.listTooLong (aP.toArray.size * k.toNat)=true:=by
  rw [Ew hlen]
  exact eC
 have Zt:List.foldl (fun x1 x2=>x1 ++ x2) #[] (List.replicate (if aP.toArray.isEmpty=true then 0 else k.toNat) aP.toArray)=(List.replicate k.toNat aP).flatten.toArray:=by
  have f0:∀ m:Nat,List.foldl (fun x1 x2=>x1 ++ x2) #[] (List.replicate m aP.toArray)=(List.replicate m aP).flatten.toArray:=fun m=>by
   have:=foldl_rep aP m []
   rw [SE] at this
   exact this
  rw [f0]
  cases aP with
  | nil=>simp
  | cons a r'=>rw [if_neg (by simp)]
 refine wpAny_binaryOp_repeat_ref (T:="list") (U:="int") (by decide) ⟨_,e,rfl⟩ (fun s'=>typeIs_int s' k t) noFill_list_mul F.fills_int_mul F.slot_int_rmul repeat_list F.slot_int_index.lookup
  (call_meets F.slot_int_rmul (typeIs_int s k t) F.entry_int_rmul (F.args_int_rmul_2 _ _) (int___rmul___int_list k t l aP.toArray n)
    ⟨e,rfl,⟨_,e,rfl⟩,call_meets F.slot_list_mul ⟨_,e,rfl⟩ F.entry_list_mul (F.args_list_mul_2 _ _) (AutoListH.list___mul___list_int_3 l aP.toArray n k t Zs Zr Ug) ⟨e,?_⟩⟩)
 rw [Zt]
 exact ⟨.ref _,_,I.Ud (t':=s.toks) (r.rep k.toNat) (by rw [len_rep,Nat.mul_comm]; exact hz),rfl,q _ I.fresh⟩
end
section
variable {prog:Program} {w:World} {A:Around} {E:Value→Shared→Prop} {s:Shared}
end
section
variable {X:Cx}
end
end L2
namespace XZ
open PySem PySem.W PySem.Calls PyProof.Rows
theorem m5 {P:Params} {h:Heap}:∀ (ns:List Int) (vs:List Value),WellAll P h vs (ns.map WData.int)→IntsAre vs ns:=by
 intro ns
 induction ns with
 | nil =>
   intro vs w
   rw [ME] at w
   cases w
   exact .nil
 | cons n ns ih =>
   intro vs w
   rw [i5] at w
   cases w with
   | cons a b =>
     cases a
     exact .cons _ _ (ih _ b)
theorem BW {l:OpenLaw} {n:Nat} (hn:l.most=some n) {P:Params} {h:Heap} {args:List WData} {vals:List Value}
  (BX:l.row.toRowW.claim.pre args=true) (Uh:WellAll P h vals args) :
  ∃ a vs ns,vals=[Value.ref a]∧args=[WData.list (ns.map WData.int)]∧h.get? a=some { cls:=.type "list",data:=.seq vs.toArray }∧IntsAre vs ns∧ns.length≤n:=by
 have hsh:WShape.hasAll [] args [.list .int]=true:=(pre_splitW BX).1
 have hc:l.pre.holds [] { args:=args }=true:=(pre_splitW BX).2
 obtain ⟨d,r,rfl,h1,h2⟩:=hasAllW_cons hsh
 obtain rfl:=hasAllW_nil h2
 obtain ⟨xs,rfl,h3⟩:=hasW_list h1
 obtain ⟨ns,rfl⟩:=items_int h3
 have hlen:ns.length≤n:=by
  unfold OpenLaw.pre at hc
  have h4:(WTm.not (.lt (.lit (.int (n:Int))) (.len (.arg 0)))).holds [] { args:=[.list (ns.map .int)] }=true:=by
   have h4:=(holds_andW hc).1
   rw [hn] at h4
   exact h4
  have h5:=condW_of h4 (w_not (w_lt w_lit (w_len_list (w_arg rfl))))
  rw [cU] at h5
  refine Nat.le_of_not_lt fun q=>?_
  have q':(n:Int) < ((ns.length:Nat):Int):=by omega
  first
   | (rw [decide_eq_true q'] at h5; exact absurd h5 (by decide))
   | (simp at h5; omega)
 cases Uh with
 | cons w1 w2 =>
   cases w2
   cases w1 with
   | list ho Zu=>exact ⟨_,_,ns,rfl,rfl,ho,m5 ns _ Zu,hlen⟩
theorem BY (l:OpenLaw) (args:List WData):l.row.toRowW.claim.post args (.bool true) args=true :=
 postW_of (r:=l.row.toRowW) (X:=(true == true))
  (show WShape.has [] (.bool true) .bool=true by first | rfl | decide | simp [WShape.has,WShape.arms,WShape.armsAll])
  (show (WTm.eq .res (.lit (.bool true))).value [] { args:=args,res:=some (.bool true),after:=args }=some (.bool (true == true)) from w_eq_bool (w_res rfl) w_lit) rfl
theorem vB {l:OpenLaw} {n:Nat} {q:Program} {loose:List Str} {XP:(Str→Option Value)→Heap→Prop} {YP:World→Heap→Prop} {d:DefRec}
  (hn:l.most=some n) (Ui:d.params.defaults=[])
  (call:∀ (w:World) (s₀ s₁:Shared) (mg mb:Str→Option Value) (fa:Addr) (o:Obj) (pm cd doc:Value) (a:Addr) (vs:List Value) (ns:List Int),
    Ground q loose [] XP w s₀ mg mb s₁.heap→YP w s₁.heap →
    s₁.heap.get? fa=some o→o.data = .func (docDef d.name d.params d.body d.scope pm cd doc)→s₁.heap.CodeRec cd d.name→mg d.name=some (.ref fa) →
    s₁.heap.get? a=some { cls:=.type "list",data:=.seq vs.toArray }→IntsAre vs ns→ns.length≤n→s₁.gens = #[] →
    codeAny (model l.prog w) callerA (.call (.ref fa) ⟨[.ref a],[]⟩) (fun r s'=>r = .ok (.ret (.bool true))∧OldK s₁.heap s'.heap∧s'.os=s₁.os∧AllBare s'.gens) s₁) :
  WalkO q loose XP YP l.row.toRowW d [] (fun f vs=>PySem.call f vs):=by
 intro w s₀ s₁ mg mb G Y fa o pm cd doc dV kV ho hd gn hD Uj hg args vals as BX Uk hrd Uh hlo
 obtain rfl:dV = .none:=Dflts.none hD Ui
 obtain rfl:kV = .none:=Dflts.noKw hD
 obtain ⟨a,vs,ns,rfl,rfl,Pe,hints,hlen⟩:=BW hn BX Uh
 refine enter_call (codeAny_mono (call w s₀ s₁ mg mb fa o pm cd doc a vs ns G Y ho (fd_plain hd) gn Uj Pe hints hlen hg) fun r s' hq=>?_)
 obtain ⟨rfl,h2,h3,h4⟩:=hq
 exact ⟨.inl ⟨.bool true,.bool true,[],rfl,fun _=>rfl,.bool true,BY l _,fun _=>⟨List.Pairwise.nil,fun _ hm=>(nomatch hm)⟩⟩,h2,h3,h4⟩
section
variable {prog:Program} {w:World} {A:Around} {E:Value→Shared→Prop} {s:Shared} {K:Frag}
end
end XZ
namespace L2
open PySem PySem.Spec PyProof.Rows
theorem rE:∀ {vs:List Value} {ns:List Int},IntsAre vs ns→Vals (ns.map V.int) vs
 | _,_,.nil=>.nil
 | _,_,.cons n t h=>.cons ⟨t,rfl⟩ (rE h)
def Ul (H:Hp):Prop:=∀ b,H b=none∨∃ o xs,H b=some (.vh o (.lst xs))
theorem Ez {P:Program} {w:World} {K:KFr} {mg mb:Str→Option Value} {CX:DJ} {k:Nat} {fa a:Addr} {fd:FuncData} {x:Str} {sp:Sp} {s₁:Shared} {vs:List Value} {ns:List Int}
  (KX:K.In s₁.heap) (hns:s₁.heap.Ns mainGlobals mg) (hb:s₁.heap.Ns builtinsNs mb) (hbb:∀ x:Str,x≠"__name__"→mb x=bootBuiltins x) (Zv:s₁.heap.NoLimit) (hg:s₁.gens = #[])
  (ha:s₁.heap.get? a=some { cls:=.type "list",data:=.seq vs.toArray }) (hi:IntsAre vs ns) (hl:ns.length≤sizeLine) (hr:bz k callerA)
  (F:∀ base:Heap,K.In base→base.Ns mainGlobals mg→b_ P w K mg base CX k fa fd [x] sp) (Um:∀ (s:Shared) (u:Value),BindsTo s fd ⟨[u],[]⟩ [(x,u)])
  (II:∀ H:Hp,Ul H→fA K H a (ns.map V.int)→sp [.ref a] H (fun v _=>v = .bl true) fun _ _ _=>False)
  (hCX:∀ H e s',CX [] H s₁ (fun _ _ _=>False) e s'→False) :
  codeAny (model P w) callerA (.call (.ref fa) ⟨[.ref a],[]⟩) (fun r s'=>r = .ok (.ret (.bool true))∧OldK s₁.heap s'.heap∧s'.os=s₁.os∧AllBare s'.gens) s₁:=by
 have rv:=rE hi
 have Zw:=hi.length
 have core:∀ H:Hp,Ul H→fA K H a (ns.map V.int)→j3 P w H s₁.heap→(∀ b,H b≠none→b=a)→(H a≠none→K.lookup a=none) →
   codeAny (model P w) callerA (.call (.ref fa) ⟨[.ref a],[]⟩) (fun r s'=>r = .ok (.ret (.bool true))∧OldK s₁.heap s'.heap∧s'.os=s₁.os∧AllBare s'.gens) s₁:=by
  intro H hO hS cg hA hK
  have AD:∀ {b:Addr} {o:Obj},s₁.heap.get? b=some o→H b=none→(sE s₁.heap H).get? b=some o:=fun e n=>D_ e n
  have T4:∀ {b:Addr} {o:Obj} {es:Array DictEntry} {ep:Nat},s₁.heap.get? b=some o→o.data = .dict es ep→H b=none:=fun {b o es ep} e d=>by
   cases q:H b with
   | none=>rfl
   | some u =>
     have e':b=a:=hA b (by rw [q]; simp)
     subst e'
     rw [ha] at e; cases e
     have d':Data.seq vs.toArray _=Data.dict es ep:=d
     cases d'
  have X0:∀ {b:Addr} {m:Str→Option Value},s₁.heap.Ns b m→(sE s₁.heap H).Ns b m:=fun {b m} ⟨o,es,ep,e,d,r⟩=>⟨o,es,ep,AD e (T4 e d),d,r⟩
  have hKb:K.In (sE s₁.heap H):=fun b o e=>AD (KX b o e) (by
   cases q:H b with
   | none=>rfl
   | some u =>
     have e':b=a:=hA b (by rw [q]; simp)
     subst e'
     rw [hK (by rw [q]; simp)] at e; cases e)
  have hM:Mod K mg (sE s₁.heap H):=⟨hKb,X0 hns,⟨mb,X0 hb,hbb⟩,let ⟨mc,h1,h2⟩:=Zv; ⟨mc,X0 h1,h2⟩⟩
  have e0:yq P w K mg (sE s₁.heap H) callerA [] s₁ H:=⟨rfl,hM,fun b o e=>IY e,Nat.le_of_eq (BG _ _),trivial,fun b hb=>absurd (show b∈([]:List Addr) from hb) (by simp),cg,.of_eq hg⟩
  refine codeAny_mono ((F _ hKb (X0 hns)).run callerA [] s₁ H ⟨[.ref a],[]⟩ [.ref a] [.ref a] _ _ hr e0 (Um s₁ (.ref a)) (.cons rfl .nil) (II H hO hS)) fun r s' h=>?_
  cases r with
  | error e=>exact (hCX H e s' h).elim
  | ok fl =>
    cases fl with
    | ret u =>
      obtain ⟨v,H',os,bare,un,Zx,r',q⟩:=h
      have q':v = .bl true:=q
      subst q'
      obtain rfl:u=Value.bool true:=r'
      refine ⟨rfl,OldK.of_keep fun b o e=>?_,os,bare⟩
      cases q:H b with
      | none=>exact un.keep b o e q (by intro z; exact absurd (show b∈([]:List Addr) from z) (by simp)) (by simp)
      | some u =>
        rcases hO b with z | ⟨ob,xs,z⟩
        · rw [q] at z; cases z
        · have z2:=un.sD b ob _ z
          obtain ⟨e1,_⟩:=cg b _ z
          obtain ⟨e2,_⟩:=Zx b _ z2
          rw [e] at e1; cases e1
          exact e2
    | _=>exact False.elim h
 cases hk:K.lookup a with
 | some o =>
   have e:=KX a o hk
   rw [ha] at e
   cases e
   refine core (fun _=>none) (fun _=>.inl rfl) (.inr ⟨_,vs.toArray,_,hk,rfl,rfl,rfl,by rw [gF,Zw]; exact hl,by simpa using rv⟩) (fun b u z=>by have z':(none:Option HO)=some u:=z; cases z') (fun b z=>absurd rfl z) fun z=>absurd rfl z
 | none =>
   refine core (fun b=>if b=a then some (.vh { cls:=.type "list",data:=.seq vs.toArray } (.lst (ns.map V.int))) else none) (fun b=>?_) (.inl (.inr ⟨{ cls:=.type "list",data:=.seq vs.toArray },if_pos rfl⟩)) (fun b u z=>?_) (fun b z=>?_) fun _=>hk
   · by_cases hb:b=a
     · exact .inr ⟨_,_,if_pos hb⟩
     · exact .inl (if_neg hb)
   · by_cases hb:b=a
     · have z':=(if_pos hb).symm.trans z
       cases z'
       subst hb
       exact ⟨ha,by rw [cU]; exact hl,vs,_,rv,ha⟩
     · have z':=(if_neg hb).symm.trans z
       cases z'
   · by_cases hb:b=a
     · exact hb
     · exact absurd (if_neg hb) z
def inClass (s:Stmt) (j:Nat):Stmt:=match s with
 | .ClassDef _ _ _ body _ _ _ _ _ _ _=>body.getD j (.Pass ⟨0,0,0,0⟩)
 | _=>.Pass ⟨0,0,0,0⟩
def cR (s:Stmt):Arguments:=match s with
 | .FunctionDef _ a _ _ _ _ _ _ _ _=>a
 | _=>{ posonlyargs:=[],args:=[],vararg:=none,kwonlyargs:=[],kw_defaults:=[],kwarg:=none,defaults:=[] }
def bA (s:Stmt):List Stmt:=match s with
 | .FunctionDef _ _ b _ _ _ _ _ _ _=>b
 | _=>[]
def ah (s:Stmt):Scope:=match s with
 | .FunctionDef _ _ _ _ _ _ sc _ _ _=>sc
 | _=>{ kind:=.function,names:=[],isGenerator:=false,isCoroutine:=false }
abbrev dI:DJ:=fun _ _ _ _ _ _=>False
abbrev E0:XK:=fun _ _ _=>False
theorem jz {X:Cx}:Passes dI X E0:=fun _ _ _ _ _ _ _ h=>h.elim
structure AE (K:KFr) (x qual:Str) (st:Stmt) (f:Addr) (fd:FuncData):Prop where
 ex:∃ (oc:Value) (od:Option Addr) (kV doc pm:Value) (an:Option Addr) (bu ct:Value) (BR:Array (Option Value)),
  fd=PySem.W.fnOf x qual (cR st) (bA st) (ah st) .none kV doc pm an bu ct∧K.lookup f=some ⟨oc,od,.func fd,BR⟩∧PySem.W.codeIn K bu qual=true
 kp:PySem.W.keepIn K (.ref f)=true
section
variable {P:Program} {w:World} {K:KFr} {mg:Str→Option Value} {base:Heap}
theorem AE.ok {x qual:Str} {st:Stmt} {f:Addr} {fd:FuncData} {N ps:List Str} {k:Nat} {sp:Sp} (F:AE K x qual st f fd) (S:aC N ps (ah st)) (len:∀ vs H Q E,sp vs H Q E→vs.length=ps.length)
  (cb:∀ (bu:Value) (A:Around) (outer:List Env) (s:Shared) (H:Hp) (vs:List V) (Q:VK) (E:XK),bz k (A.deeper (envOfC qual (ah st) s.heap.objs.size f bu))→sp vs H Q E →
    ∃ t,gG (eG dI P w K mg base N qual (ah st) f bu A outer s H E).nZ (bA st) t∧t { nx:=fun _ H'=>Q .aT H',rt:=Q } (start N vs) H):b_ P w K mg base dI (k+1) f fd ps sp:=by
 obtain ⟨oc,od,kV,doc,pm,an,bu,ct,BR,rfl,lk,gn⟩:=F.ex
 refine MW lk gn S len fun A outer s H vs Q E hr II=>?_
 obtain ⟨t,h,q⟩:=cb bu A outer s H vs Q E hr II
 exact ⟨t,h.nZ,q⟩
theorem AE.binds {x qual:Str} {st:Stmt} {f:Addr} {fd:FuncData} {ps:List Str} (F:AE K x qual st f fd)
  (h:∀ (kV doc pm:Value) (an:Option Addr) (bu ct:Value) (us:List Value),us.length=ps.length→bindArgs (PySem.W.fnOf x qual (cR st) (bA st) (ah st) .none kV doc pm an bu ct) ⟨us,[]⟩=pure (ps.zip us)):Binds K fd ps []:=by
 obtain ⟨oc,od,kV,doc,pm,an,bu,ct,BR,rfl,lk,gn⟩:=F.ex
 exact .all (h kV doc pm an bu ct)
theorem oj {x qual:Str} {st:Stmt} {f:Addr} {oc:Value} {od an:Option Addr} {BR:Array (Option Value)} {kV doc pm bu ct:Value} (l:K.lookup f=some ⟨oc,od,.func (PySem.W.fnOf x qual (cR st) (bA st) (ah st) .none kV doc pm an bu ct),BR⟩)
 (c:PySem.W.codeIn K bu qual=true) (k:PySem.W.keepIn K (.ref f)=true):AE K x qual st f (PySem.W.fnOf x qual (cR st) (bA st) (ah st) .none kV doc pm an bu ct):=⟨⟨oc,od,kV,doc,pm,an,bu,ct,BR,rfl,l,c⟩,k⟩
end
theorem BZ {n:Nat} (h:n≤1000):n < sizeLine:=XJ h (by decide)
section
variable {X:Cx}
end
theorem Pf {A B:Prop} (h:B):if false=true then A else B:=by
 rw [if_neg eC]
 exact h
theorem Pg {A B:Prop} (h:A):if true=true then A else B:=by
 rw [if_pos rfl]
 exact h
theorem yy {c A B:Prop} [Decidable c] (h1:c→A) (h2:¬ c→B):if c then A else B:=by
 by_cases h:c
 · rw [if_pos h]
   exact h1 h
 · rw [if_neg h]
   exact h2 h
def aN (H H':Hp):Prop:=∀ b o,H b=some o→H' b=some o
theorem aN.refl (H:Hp):aN H H:=fun _ _ h=>h
theorem aN.trans {H H1 H2:Hp} (a:aN H H1) (b:aN H1 H2):aN H H2:=fun c o h=>b c o (a c o h)
section
theorem gO {env:Env} {f:Str×NameKind→List (Str×Addr)→Sem (ForInStep (List (Str×Addr)))}:∀ (l:List (Str×NameKind)) (cs:List (Str×Addr)),
  (∀ p∈l,∀ r,(p.2 = .free→∃ c,env.cells.lookup p.1=some c∧f p r=pure (.yield ((p.1,c) :: r)))∧(p.2≠.free→f p r=pure (.yield r))) →
  ∃ cl,forIn l cs f=pure cl∧(∀ y c,cl.lookup y=some c→cs.lookup y=some c∨env.cells.lookup y=some c)∧(∀ y,(cs.lookup y).isSome=true→(cl.lookup y).isSome=true) ∧
   ∀ p∈l,p.2 = .free→(cl.lookup p.1).isSome=true
 | [],cs,_=>⟨cs,by rw [List.forIn_nil],fun _ _ h=>.inl h,fun _ h=>h,fun _ h=>nomatch h⟩
 | p :: l,cs,hf=>by
   have hr:∀ q∈l,∀ r,(q.2 = .free→∃ c,env.cells.lookup q.1=some c∧f q r=pure (.yield ((q.1,c) :: r)))∧(q.2≠.free→f q r=pure (.yield r)):=fun q hq r=>hf q (eB _ hq) r
   by_cases hp:p.2 = .free
   · obtain ⟨c,hc,e⟩:=(hf p c6 cs).1 hp
     obtain ⟨cl,h1,h2,h3,h4⟩:=gO l ((p.1,c) :: cs) hr
     refine ⟨cl,?_,fun y d h=>?_,fun y h=>h3 y ?_,fun q hq X1=>?_⟩
     · rw [List.forIn_cons,e]
       exact h1
     · rcases h2 y d h with z | z
       · rw [IB] at z
         cases hy:y == p.1 with
         | true =>
           rw [hy] at z
           have ey:y=p.1:=eq_of_beq hy
           cases z
           rw [ey]
           exact .inr hc
         | false=>rw [hy] at z; exact .inl z
       · exact .inr z
     · rw [IB]
       cases hy:y == p.1 with
       | true=>rfl
       | false=>exact h
     · rcases cY.mp hq with z | z
       · subst z
         refine h3 _ ?_
         rw [IB,beq_self_eq_true]
         rfl
       · exact h4 q z X1
   · have e:=(hf p c6 cs).2 hp
     obtain ⟨cl,h1,h2,h3,h4⟩:=gO l cs hr
     refine ⟨cl,?_,h2,h3,fun q hq X1=>?_⟩
     · rw [List.forIn_cons,e]
       exact h1
     · rcases cY.mp hq with z | z
       · subst z; exact absurd X1 hp
       · exact h4 q z X1
theorem h9 {scope:Scope} {env:Env} (h:∀ p∈scope.names,p.2 = .free→∃ c,env.cells.lookup p.1=some c) :
  ∃ cl,closureFor scope env=pure cl∧(∀ y c,cl.lookup y=some c→env.cells.lookup y=some c)∧∀ p∈scope.names,p.2 = .free→∃ c,cl.lookup p.1=some c:=by
 have key:∃ cl,closureFor scope env=pure cl∧(∀ y c,cl.lookup y=some c→([]:List (Str×Addr)).lookup y=some c∨env.cells.lookup y=some c)∧(∀ y,(([]:List (Str×Addr)).lookup y).isSome=true→(cl.lookup y).isSome=true) ∧
   ∀ p∈scope.names,p.2 = .free→(cl.lookup p.1).isSome=true:=by
  simp only [closureFor]
  have go:=@gO env (fun x r=>if x.2 == NameKind.free then (do let c ← cellOf env x.1; pure (ForInStep.yield ((x.1,c) :: r))) else pure (ForInStep.yield r)) scope.names [] ?_
  · obtain ⟨cl,h1,h2⟩:=go
    refine ⟨cl,?_,h2⟩
    first
     | (show (forIn scope.names [] _ >>= fun cs=>pure cs)=_; rw [h1]; rfl)
     | (rw [h1]; rfl)
     | exact congrArg (· >>= pure) h1
  · intro p hp r
    refine ⟨fun hf=>?_,fun hf=>?_⟩
    · obtain ⟨c,hc⟩:=h p hp hf
      refine ⟨c,hc,?_⟩
      have e1:(p.2 == NameKind.free)=true:=by rw [hf]; rfl
      have e2:cellOf env p.1=pure c:=by unfold cellOf; rw [hc]
      rw [e1,if_pos rfl,e2]
      rfl
    · have e1:(p.2 == NameKind.free)=false:=by simpa using hf
      rw [e1,if_neg (by decide)]
 obtain ⟨cl,h1,h2,h3,h4⟩:=key
 refine ⟨cl,h1,fun y c e=>?_,fun p hp hf=>Option.isSome_iff_exists.mp (h4 p hp hf)⟩
 rcases h2 y c e with z | z
 · rw [List.lookup_nil] at z; cases z
 · exact z
theorem j' {scope:Scope} {env:Env} (y:Str):(relabel scope env).names.lookup y =
  (scope.names.lookup y).map fun k=>if (k == .free && env.scope.kind == .function && env.kindOf y == some .cell)=true then .cell else k:=by
 have key:∀ l:List (Str×NameKind),(l.map fun (n,k)=>if (k == NameKind.free && env.scope.kind == .function && env.kindOf n == some .cell) then (n,NameKind.cell) else (n,k)).lookup y =
   (l.lookup y).map fun k=>if (k == .free && env.scope.kind == .function && env.kindOf y == some .cell)=true then .cell else k:=by
  intro l
  induction l with
  | nil=>rfl
  | cons p l ih =>
    obtain ⟨n,k⟩:=p
    rw [i5]
    show List.lookup y ((if (k == NameKind.free && env.scope.kind == .function && env.kindOf n == some .cell)=true then (n,NameKind.cell) else (n,k)) :: _)=_
    by_cases hc:(k == NameKind.free && env.scope.kind == .function && env.kindOf n == some .cell)=true
    · rw [if_pos hc,IB,IB]
      cases hy:y == n with
      | true =>
        have ey:y=n:=eq_of_beq hy
        subst ey
        show some NameKind.cell=some (if _ then _ else _)
        rw [if_pos hc]
      | false=>exact ih
    · rw [if_neg hc,IB,IB]
      cases hy:y == n with
      | true =>
        have ey:y=n:=eq_of_beq hy
        subst ey
        show some k=some (if _ then _ else _)
        rw [if_neg hc]
      | false=>exact ih
 exact key scope.names
end
def jJ (N ts:List Str) (out sc:Scope):Bool :=
 (sc.kind == .function) && sc.names.all (fun p=>(p.2 != .cell) && (p.2 != .free || out.names.lookup p.1 == some .cell || out.names.lookup p.1 == some .free) && (p.2 != .local || sc.names.lookup p.1 == some .local))
   && N.all (fun y=>sc.names.lookup y != some .local) && ts.all (fun y=>sc.names.lookup y == some .local) && decide ((N ++ ts).Nodup)
structure om (N ts:List Str) (out sc:Scope):Prop where
 kind:sc.kind = .function
 EA:∀ p∈sc.names,p.2≠.cell
 fr:∀ p∈sc.names,p.2 = .free→out.names.lookup p.1=some .cell∨out.names.lookup p.1=some .free
 names:∀ p∈sc.names,p.2 = .local→sc.names.lookup p.1=some .local
 own:∀ y∈N,sc.names.lookup y≠some .local
 tgt:∀ y∈ts,sc.names.lookup y=some .local
 nd:(N ++ ts).Nodup
theorem rF {N ts:List Str} {out sc:Scope} (h:jJ N ts out sc=true):om N ts out sc:=by
 unfold jJ at h
 rw [my,my,my,my] at h
 obtain ⟨⟨⟨⟨h1,h2⟩,h3⟩,h4⟩,h5⟩:=h
 rw [Oi] at h2 h3 h4
 refine ⟨eq_of_beq h1,fun p hp=>?_,fun p hp hf=>?_,fun p hp hl=>?_,fun y hy=>?_,fun y hy=>?_,of_decide_eq_true h5⟩
 · have:=h2 p hp
   rw [my,my] at this
   simpa using this.1.1
 · have:=h2 p hp
   rw [my,my] at this
   have q:=this.1.2
   rw [hf] at q
   simpa using q
 · have:=h2 p hp
   rw [my,my] at this
   have q:=this.2
   rw [hl] at q
   simpa using q
 · simpa using h3 y hy
 · simpa using h4 y hy
def bC (X:Cx) (ts:List Str) (sc:Scope) (cl:List (Str×Addr)) (C:Addr) (fp:List Addr) (s:Shared) (H:Hp):Cx where
 prog:=X.prog
 w:=X.w
 K:=X.K
 mg:=X.mg
 base:=X.base
 A:=X.A
 N:=X.N ++ ts
 s₀:=s
 H₀:=H
 env:=compEnvC sc cl C X.env
 outer:=X.stack
 stack:=X.stack
 ex:=fp
 fn:=fun _=>false
 calm:=X.calm
 pn:=[]
 xe:=fun _ _=>False
section
variable {X:Cx} {pins:List (Addr×Obj)} {σ:St} {H:Hp} {s:Shared} {ts:List Str} {sc:Scope} {cl:List (Str×Addr)} {C D:Addr} {fp:List Addr}
theorem rG (hS:om X.N ts X.env.scope sc) {y:Str} (h:j5 (relabel sc X.env) y):sc.names.lookup y=some .local∨(sc.names.lookup y=some .free∧((relabel sc X.env).names.lookup y=some .cell∨(relabel sc X.env).names.lookup y=some .free)):=by
 have e:=j' (scope:=sc) (env:=X.env) y
 cases hk:sc.names.lookup y with
 | none =>
   rw [hk] at e
   have e':(relabel sc X.env).names.lookup y=none:=e
   rcases h with h | h | h <;> rw [e'] at h <;> cases h
 | some k =>
   have hm:(y,k)∈sc.names:=Mv hk
   rw [hk] at e
   cases k with
   | «local»=>exact .inl rfl
   | cell=>exact absurd rfl (hS.EA _ hm)
   | free =>
     refine .inr ⟨rfl,?_⟩
     rw [e,Ti]
     by_cases hc:(NameKind.free == .free && X.env.scope.kind == .function && X.env.kindOf y == some .cell)=true
     · rw [if_pos hc]; exact .inl rfl
     · rw [if_neg hc]; exact .inr rfl
   | globalExplicit =>
     have e':(relabel sc X.env).names.lookup y=some .globalExplicit:=e
     rcases h with h | h | h <;> rw [e'] at h <;> cases h
   | globalImplicit =>
     have e':(relabel sc X.env).names.lookup y=some .globalImplicit:=e
     rcases h with h | h | h <;> rw [e'] at h <;> cases h
theorem AF (I:Inv X pins σ H s) (hf:∀ b∈fp,k5 X pins H b):∀ b∈fp,b∉DH X.stack:=fun b hb z=>by
 obtain ⟨_,f1,f2,_⟩:=hf b hb
 rcases cY.mp (I.ya b z) with e | e
 · exact f1 e
 · exact f2 e
theorem Jv (I:Inv X pins σ H s) (hf:∀ b∈fp,k5 X pins H b) (Ph:∀ b∈fp,∃ o,s.heap.get? b=some o) (hS:om X.N ts X.env.scope sc)
  (c1:∀ y c,cl.lookup y=some c→X.env.cells.lookup y=some c) (c2:∀ p∈sc.names,p.2 = .free→∃ c,cl.lookup p.1=some c)
  (hC:s.heap.objs.size≤C) (hD:s.heap.objs.size≤D) (X2:D≠C) {h1:Heap} {m:Str→Option Value} {n:Nat} {t:Nat} (k:∀ b o,s.heap.get? b=some o→h1.get? b=some o) (hn:h1.Ns C m)
  (hd:h1.get? D=some { cls:=.type "list",data:=.seq ([]:List Value).toArray n }) :
  Inv (bC X ts sc cl C fp s H) [] (σ ++ ts.map fun _=>none) (upd H D (.lst [])) { s with heap:=h1,toks:=t }:=by
 have sz:=I.sz
 have Zy:∀ b∈fp,b < s.heap.objs.size:=fun b hb=>by obtain ⟨o,e⟩:=Ph b hb; exact fq e
 have I_:∀ y c,cl.lookup y=some c→c < s.heap.objs.size:=fun y c e=>by obtain ⟨v,q⟩:=I.cell y c (c1 y c e); exact q.lt
 have ok:(bC X ts sc cl C fp s H).Ok:=by
  refine ⟨I.ok.mod,hS.kind,I.ok.glob,I.ok.blt,hC,fun x y c e1 e2=>I.ok.inj x y c (c1 x c e1) (c1 y c e2),fun x hx=>?_,fun x c hx=>absurd hx (by simp [bC]),I.ok.hd,I.ok.frames,.inl rfl,fun b hb=>?_,fun b o e=>I.bs b o e,
   k0 I.ok.DI sz,fun b o e hb=>?_,AF I hf,I.stack,fun b hb=>I.Aq b hb⟩
  · have hv:j5 (relabel sc X.env) x:=by
     rcases hx with hx | hx
     · exact .inr (.inl hx)
     · exact .inr (.inr hx)
    rcases rG hS hv with z | ⟨z,_⟩
    · have e:=j' (scope:=sc) (env:=X.env) x
      rw [z] at e
      have e':(relabel sc X.env).names.lookup x=some .local:=e
      have X3:(relabel sc X.env).names.lookup x=some .cell∨(relabel sc X.env).names.lookup x=some .free:=hx
      rw [e'] at X3
      rcases X3 with q | q <;> cases q
    · exact c2 _ (Mv z) rfl
  · exact ⟨fun e=>absurd (rg (Zy b hb) hC) (by have e':b=C:=e; rw [e']; exact DG _),fun x c e z=>(hf b hb).2.2.2.2.1 x c (c1 x c e) z⟩
  · rcases (hf b hb).2.2.2.1 with z | z
    · exact I.ok.x_ b o e z
    · exact absurd (rg (fq e) (k0 I.ok.DI z)) (DG _)
 have hnD:H D=none:=I.cg.fresh hD
 refine ⟨ok,rfl,I.bare,Un.laid k hD hnD,⟨m,hn,fun i x v e1 e2 e3=>?_⟩,fun x c e=>?_,?_,fun x c e=>?_,fun p hp=>absurd (show p∈([]:List (Addr×Obj)) from hp) (by simp),I.cg.laid k hD ⟨jw _,[],n,.nil,hd⟩,?_⟩
 · have hi:i < σ.length:=by
    by_cases hi:i < σ.length
    · exact hi
    · rw [uX (by omega),i4] at e2
      cases q:ts[i - σ.length]? with
      | none=>rw [q] at e2; cases e2
      | some a=>rw [q] at e2; cases e2
   have IK:σ[i]?=some (some v):=by rw [qh hi] at e2; exact e2
   have e1':X.N[i]?=some x:=by
    have Uo:(X.N ++ ts)[i]?=some x:=e1
    rw [qh (by rw [← I.len]; exact hi)] at Uo
    exact Uo
   rcases rG hS e3 with z | ⟨z,zr⟩
   · exact absurd z (hS.own x (ik e1'))
   · have hm:=Mv z
     have ho:=hS.fr _ hm rfl
     obtain ⟨m0,_,hl⟩:=I.loc
     obtain ⟨u,r,l⟩:=hl i x v e1' IK (.inr ho)
     obtain ⟨c',nY⟩:=c2 _ hm rfl
     rcases l with ⟨l,_⟩ | ⟨_,c,hc,z2⟩
     · have l':X.env.scope.names.lookup x=some .local:=l
       rw [l'] at ho
       rcases ho with q | q <;> cases q
     · have ec:=c1 x c' nY
       rw [hc] at ec
       cases ec
       exact ⟨u,r,.inr ⟨zr,_,nY,z2.keeps k⟩⟩
 · obtain ⟨v,z⟩:=I.cell x c (c1 x c e)
   exact ⟨v,z.keeps k⟩
 · show upd H D (.lst []) C=none
   rw [aA (Ne.symm X2)]
   exact I.cg.fresh hC
 · show upd H D (.lst []) c=none
   rw [aA (j4 (rg (I_ x c e) hD))]
   exact I.gm x c (c1 x c e)
 · show (σ ++ ts.map fun _=>none).length=(X.N ++ ts).length
   rw [uY,uY,cU,I.len]
theorem vC (I:Inv X pins σ H s) (hf:∀ b∈fp,k5 X pins H b) {As:List (Addr×Obj)} {σ':St} {H':Hp} {s':Shared} (J:Inv (bC X ts sc cl C fp s H) As σ' H' s'):Inv X pins σ H' s' :=
 I.Tq J.os J.base J.cg J.bare fun b hb=>by
  obtain ⟨_,f1,_,f3,f4,f5⟩:=hf b hb
  exact ⟨f3,f1,f4,f5⟩
end
section
variable {prog:Program} {w:World} {A:Around} {R:Result→Shared→Prop} {s:Shared}
theorem jr {elt target iter:Expr} {ifs:List Expr} {scope:Scope} {pos:Pos} {it acc:Value} {env:Env} (I:Nat→Shared→Prop)
  (turn:∀ n s,I n s→wpAny (model prog w) A (pyNext it) (fun r s₁=>match r with
    | none=>R (.ok .next) s₁
    | some v=>wpAny (model prog w) A (letOwnedTupleGo target it v) (fun _ s₁'=>wpAny (model prog w) A (assign target env v) (fun _ s₂ =>
       wpAny (model prog w) A (forIn ifs true fun c r=>if r=true then do let ok ← isTrue c env (eval c env); pure (ForInStep.yield ok) else pure (ForInStep.yield r)) (fun ok s₃ =>
        if ok=true then wpAny (model prog w) A (eval elt env) (fun x s₄ =>
         wpAny (model prog w) A (call (.builtin "list.append") [acc,x]) (fun _ s₅=>∃ m,m < n∧I m s₅) (notedBy (model prog w) A env fun e s'=>R (.error e) s') s₄) (notedBy (model prog w) A env fun e s'=>R (.error e) s') s₃
        else ∃ m,m < n∧I m s₃) (notedBy (model prog w) A env fun e s'=>R (.error e) s') s₂) (notedBy (model prog w) A env fun e s'=>R (.error e) s') s₁')
       (notedBy (model prog w) A env fun e s'=>R (.error e) s') s₁) (notedBy (model prog w) A env fun e s'=>R (.error e) s') s)
  (n:Nat) (h:I n s):codeAny (model prog w) A (.compLoop (.ListComp elt [⟨target,iter,ifs,0⟩] scope pos) 0 it acc env) R s:=by
 refine codeAny_loop rfl I (fun n s hI=>?_) n h
 show wpAny _ A ((compTurn (.ListComp elt [⟨target,iter,ifs,0⟩] scope pos) 0 it acc env).onRaise (fun x=>do noteFrame x env; theTreesLotGoes x)) _ _ s
 refine wpAny_noted ?_
 rw [compTurn_list]
 refine wpAny_bind (wpAny_standAt (wpAny_bind (wpAny_mono (turn n s hI) (fun r s₁ h₁=>?_) fun _ _ h'=>h')))
 cases r with
 | none=>exact wpAny_pure h₁
 | some v =>
   refine wpAny_bind (wpAny_mono h₁ (fun _ s₁' h₁'=>?_) fun _ _ h'=>h')
   refine wpAny_bind (wpAny_mono h₁' (fun _ s₂ h₂=>wpAny_bind (wpAny_mono h₂ (fun ok s₃ h₃=>?_) fun _ _ h'=>h')) fun _ _ h'=>h')
   cases ok with
   | false=>exact wpAny_pure ⟨rfl,h₃⟩
   | true =>
     exact wpAny_bind (wpAny_bind (wpAny_mono h₃ (fun x s₄ h₄=>wpAny_bind (wpAny_mono h₄ (fun _ s₅ h₅=>wpAny_pure (wpAny_pure ⟨rfl,h₅⟩)) fun _ _ h'=>h')) fun _ _ h'=>h'))
end
def EB (X:Cx) (ifs:List Expr) (t:TT):Prop :=
 ∀ (pins:List (Addr×Obj)) (s:Shared) (σ:St) (H:Hp) (Q:Bool→Hp→Prop),Inv X pins σ H s→t σ H Q →
  wpAny (model X.prog X.w) X.A (forIn ifs true fun c r=>if r=true then do let ok ← isTrue c X.env (eval c X.env); pure (ForInStep.yield ok) else pure (ForInStep.yield r)) (TP X pins σ Q) X.xe s
def Zz:TT:=fun _ H Q=>Q true H
theorem Jw {X:Cx}:EB X [] Zz:=fun _ _ _ H _ I h=>wpAny_tests_nil ⟨H,I,h⟩
theorem Jx {X:Cx} {c:Expr} {t:TT} (h:PT X c t):EB X [c] t:=fun pins s σ H Q I hw=>wpAny_tests_one (h pins s σ H Q I hw)
def EC (J:It) (g:TG) (tt:TT) (te:TE) (n:Nat) (σ:St) (D:Addr) (Q:Hp→Prop) (H1:Hp):Prop :=
 ∃ W:Nat→Nat→List V→Hp→Prop,(∃ m,W 0 m [] (upd H1 D (.lst [])))∧∀ i m acc H2,W i m acc H2→H2 D=some (.lst acc) ∧
  ((J.stop i H2∧Q H2)∨(J.go i H2∧acc.length < sizeLine∧∀ x H3,J.TC i H2 x H3→g x (σ ++ List.replicate n none) H3 fun σ4 H4=>(σ4.length=σ.length+n∧∀ (i:Nat) v,σ[i]?=some (some v)→σ4[i]?=some (some v)) ∧
    tt σ4 H4 fun b H5=>if b=true then te σ4 H5 fun y H6=>H6 D=some (.lst acc)∧∃ m',m' < m∧W (i+1) m' (acc ++ [y]) (upd H6 D (.lst (acc ++ [y]))) else ∃ m',m' < m∧W (i+1) m' acc H5))
section
variable {X:Cx} {pins:List (Addr×Obj)} {σ:St} {H:Hp} {s:Shared} {ts:List Str} {sc:Scope} {cl:List (Str×Addr)} {fp:List Addr}
theorem B0 {Y:Cx} {pl:List (Addr×Obj)} {σ4:St} {H':Hp} {s':Shared} {n:Nat} (I:Inv Y pl σ4 H' s') (hl:σ4.length=σ.length+n) (hs:∀ (i:Nat) v,σ[i]?=some (some v)→σ4[i]?=some (some v)) :
  Inv Y pl (σ ++ List.replicate n none) H' s':=by
 refine I.weak (by rw [uY,An,hl]) fun i v e=>?_
 by_cases hi:i < σ.length
 · rw [qh hi] at e
   exact hs i v e
 · rw [uX (by omega),BB] at e
   split at e <;> cases e
theorem vD {elt iter tg:Expr} {ifs:List Expr} {pos:Pos} {it:Addr} {tn:Nat→Heap→Prop} {J:It} {g:TG} {tt:TT} {te:TE} {Q:Hp→Prop} {RR:Value→Addr→Result→Shared→Prop} {E:Value→Shared→Prop}
  (hc:X.calm=true) (I:Inv X pins σ H s) (T:Turn X.prog X.w X.K tg J fp it tn) (st:tn 0 s.heap) (hf:∀ b∈fp,k5 X pins H b) (hS:om X.N ts X.env.scope sc)
  (c1:∀ y c,cl.lookup y=some c→X.env.cells.lookup y=some c) (c2:∀ p∈sc.names,p.2 = .free→∃ c,cl.lookup p.1=some c)
  (hg:∀ C,PG (bC X ts sc cl C fp s H) tg g) (ht:∀ C,EB (bC X ts sc cl C fp s H) ifs tt) (he:∀ C,PE (bC X ts sc cl C fp s H) elt te)
  (hw:EC J g tt te ts.length σ s.heap.objs.size Q H)
  (fin:∀ (C:Addr) (H':Hp) (s':Shared) (σ':St),s.heap.objs.size≤C→Inv (bC X ts sc cl C fp s H) [] σ' H' s'→Q H'→RR (.ref s.heap.objs.size) C (.ok .next) s') :
  wpAny (model X.prog X.w) X.A (newList []) (fun acc s₃=>wpAny (model X.prog X.w) X.A (newFunctionEnv sc X.env.globals cl [] X.env.qual none .none (some X.env)) (fun Up s₄ =>
   codeAny (model X.prog X.w) X.A (.compStart (.ListComp elt [⟨tg,iter,ifs,0⟩] sc pos) 0 (.ref it) acc { Up with scope:=relabel sc X.env }) (RR acc Up.locals) s₄) E s₃) E s:=by
 obtain ⟨W,⟨m0,w0⟩,turn⟩:=hw
 have ZA:=T.obj 0 _ st
 have Ph:∀ b∈fp,∃ o,s.heap.get? b=some o:=fun b hb=>let ⟨o,e,_⟩:=ZA b hb; ⟨o,e⟩
 refine wpAny_newObj_type (wpAny_newFunctionEnv hS.EA (by intro y hy; simp at hy) (fun h₁ Pj Jy=>?_) hS.kind)
 dsimp only at Pj Jy ⊢
 generalize ZC:s.heap.push { cls:=.type "list",dict:=none,data:=.seq ([]:List Value).toArray }=H2 at Pj Jy ⊢
 have hC:H2.objs.size=s.heap.objs.size+1:=by rw [← ZC,DY]
 have X2:s.heap.objs.size≠H2.objs.size:=by rw [hC]; exact j4 (DW _)
 have Uq:s.heap.objs.size≤H2.objs.size:=by rw [hC]; exact Ot _
 have below:∀ b,b < s.heap.objs.size→b≠H2.objs.size∧b≠s.heap.objs.size:=fun b hb=>⟨by rw [hC]; exact j4 (SA hb),j4 hb⟩
 have old:∀ b o,s.heap.get? b=some o→h₁.get? b=some o:=fun b o e=>Jy.extBut b o (below b (fq e)).1 (fH _ (ZC▸fH _ e))
 have ZD:h₁.get? s.heap.objs.size=some { cls:=.type "list",data:=.seq ([]:List Value).toArray }:=Jy.extBut _ _ X2 (fH _ (ZC▸mZ _ rfl))
 have Ur:tn 0 h₁:=T.keep _ _ _ st fun b hb o e=>old b o e
 have fresh:H s.heap.objs.size=none:=I.cg.fresh (dm _)
 have gH:∀ {H':Hp},(∀ b∈fp,H' b=none)→∀ b∈fp,k5 (bC X ts sc cl H2.objs.size fp s H) [] H' b:=fun {H'} hn b hb=>by
  obtain ⟨o,e⟩:=Ph b hb
  refine ⟨hn b hb,fun z=>?_,AF I hf b hb,.inl hb,fun x c e z=>(hf b hb).2.2.2.2.1 x c (c1 x c e) z,fun p hp=>absurd (show p∈([]:List (Addr×Obj)) from hp) (by simp)⟩
  have z':b=H2.objs.size:=z
  exact (below b (fq e)).1 z'
 have rH:∀ b∈fp,(upd H s.heap.objs.size (.lst [])) b=none:=fun b hb=>by
  obtain ⟨o,e⟩:=Ph b hb
  rw [aA (j4 (fq e))]
  exact (hf b hb).1
 have eN:(ts.map fun _=>(none:Option V))=List.replicate ts.length none:=List.map_const'
 have loop:∀ s₃:Shared,s₃={ s with heap:=h₁,toks:=s.toks+([]:List (Str×Value)).length } →
   codeAny (model X.prog X.w) X.A (.compLoop (.ListComp elt [⟨tg,iter,ifs,0⟩] sc pos) 0 (.ref it) (.ref s.heap.objs.size) (compEnvC sc cl H2.objs.size X.env)) (RR (.ref s.heap.objs.size) H2.objs.size) s₃:=by
  rintro s₃ rfl
  have J0:=Jv (ts:=ts) (t:=s.toks+([]:List (Str×Value)).length) I hf Ph hS c1 c2 Uq (dm _) X2 old Pj ZD
  rw [eN] at J0
  refine jr (fun n s'=>∃ i acc H',Inv (bC X ts sc cl H2.objs.size fp s H) [] (σ ++ List.replicate ts.length none) H' s'∧tn i s'.heap∧(∀ b∈fp,H' b=none)∧W i n acc H') ?_ m0 ⟨0,[],_,J0,Ur,rH,w0⟩
  rintro n s3 ⟨i,acc,H3,J3,TK,TL,w3⟩
  obtain ⟨hD3,alt⟩:=turn i n acc H3 w3
  rcases alt with ⟨stop,q⟩ | ⟨go,hz,step⟩
  · refine cm (T.done (bC X ts sc cl H2.objs.size fp s H) rfl rfl rfl hc i [] s3 _ H3 _ J3 (gH TL) TK stop) fun r s4 ⟨hr,J4⟩=>?_
    subst hr
    exact fin _ H3 s4 _ Uq J4 q
  · refine cm (T.item (bC X ts sc cl H2.objs.size fp s H) rfl rfl rfl hc i [] s3 _ H3 _ J3 (gH TL) TK go) fun r s4 ⟨u,hr,h4⟩=>?_
    subst hr
    refine cm h4 fun _ s5 ⟨x,H5,J5,r5,y5,OQ,Ze⟩=>?_
    have J5':=J5.pinned (gH Ze) (T.obj _ _ OQ)
    have again:∀ {σ7:St} {H7:Hp} {s7:Shared},Inv (bC X ts sc cl H2.objs.size fp s H) ([] ++ oa fp s5.heap) σ7 H7 s7→(σ7.length=σ.length+ts.length∧∀ (i:Nat) v,σ[i]?=some (some v)→σ7[i]?=some (some v))→∀ Pk m',W (i+1) m' Pk H7→m' < n →
      ∃ m,m < n∧∃ i acc H',Inv (bC X ts sc cl H2.objs.size fp s H) [] (σ ++ List.replicate ts.length none) H' s7∧tn i s7.heap∧(∀ b∈fp,H' b=none)∧W i m acc H':=fun {σ7 H7 s7} I7 hσ Pk m' w7 hm=>by
     refine ⟨m',hm,i+1,Pk,H7,B0 I7.j8 hσ.1 hσ.2,T.keep _ _ _ OQ fun b hb o e=>(I7.pin (b,o) (bO _ (bO _ (gM hb e)))).1,fun b hb=>?_,w7⟩
     obtain ⟨o,e,d⟩:=T.obj _ _ OQ b hb
     exact (I7.pin (b,o) (bO _ (bO _ (gM hb e)))).2.1
    refine wpAny_mono (hg H2.objs.size _ s5 _ H5 x u _ J5' r5 (step x H5 y5)) (fun _ s6 ⟨σ6,H6,J6,hσ,q6⟩=>?_) fun _ _ z=>False.elim z
    refine wpAny_mono (ht H2.objs.size _ s6 σ6 H6 _ J6 q6) (fun b s7 ⟨H7,J7,q7⟩=>?_) fun _ _ z=>False.elim z
    cases b with
    | false =>
      obtain ⟨m',hm,w7⟩:=q7
      exact again J7 hσ acc m' w7 hm
    | true =>
      show wpAny _ _ _ _ _ _
      refine wpAny_mono (he H2.objs.size _ s7 σ6 H7 _ J7 q7) (fun y s8 ⟨yv,H8,J8,ry,hD8,m',hm,w8⟩=>?_) fun _ _ z=>False.elim z
      refine wpAny_mono (cZ (X:=bC X ts sc cl H2.objs.size fp s H) _ s8 σ6 H8 (.ref s.heap.objs.size) [yv] (.ref s.heap.objs.size) [y] (fun v H9=>v = .aT∧H9=upd H8 s.heap.objs.size (.lst (acc ++ [yv]))) J8 rfl (.cons ry .nil) ⟨_,acc,yv,rfl,rfl,hD8,hz,rfl,rfl⟩) (fun v9 s9 ⟨v,H9,J9,_,_,e9⟩=>?_) fun _ _ z=>False.elim z
      subst e9
      exact again J9 hσ (acc ++ [yv]) m' w8 hm
 exact codeAny_compStart_list (loop _ rfl) (T.self _ 0 _ _ _ Ur (loop _ rfl))
def ED (n:Nat) (wi:TI) (g:TG) (tt:TT) (te:TE):TE:=fun σ H Q=>wi σ H fun J H1=>∀ D,H1 D=none→EC J g tt te n σ D (Q (.ref D)) H1
theorem vE (I:Inv X pins σ H s) (hS:om X.N ts X.env.scope sc):∀ p∈sc.names,p.2 = .free→∃ c,X.env.cells.lookup p.1=some c:=fun p hp hf=>by
 rcases hS.fr p hp hf with z | z
 · exact I.ok.has p.1 (.inl z)
 · exact I.ok.has p.1 (.inr z)
theorem Jz {elt iter tg:Expr} {ifs:List Expr} {pos:Pos} {wi:TI} {g:TG} {tt:TT} {te:TE} (hc:X.calm=true) (hS:jJ X.N ts X.env.scope sc=true) (hi:PI X tg iter wi)
  (hg:∀ cl C fp s H,PG (bC X ts sc cl C fp s H) tg g) (ht:∀ cl C fp s H,EB (bC X ts sc cl C fp s H) ifs tt) (he:∀ cl C fp s H,PE (bC X ts sc cl C fp s H) elt te)
  (hs:∀ x,foldedSetIterable iter X.env x=pure x:=by intro _; rfl):PE X (.ListComp elt [⟨tg,iter,ifs,0⟩] sc pos) (ED ts.length wi g tt te):=by
 intro pins s σ H Q I h
 have S:=rF hS
 obtain ⟨cl,Us,c1,c2⟩:=h9 (vE I S)
 rw [eval_ListComp]
 refine wpAny_comprehension_free (use:=none) rfl hs Us S.kind S.names ?_
 refine cm (hi pins s σ H _ I h) fun v s1 h1=>cm h1 fun XU s2 h2=>?_
 obtain ⟨it,fp,tn,J,H2,e,I2,T,vo,f2,q2⟩:=h2
 subst e
 refine vD (E:=X.xe) (RR:=fun acc C=>compPost (model X.prog X.w) X.A X.xe none (EP X pins σ Q) acc C) hc I2 T vo f2 S c1 c2 (fun C=>hg cl C fp s2 H2) (fun C=>ht cl C fp s2 H2) (fun C=>he cl C fp s2 H2) (q2 _ (I2.cg.fresh (dm _))) ?_
 intro C H' s' σ' hC J' q'
 obtain ⟨m,hn,_⟩:=J'.loc
 refine ⟨m,hn,fun h' sb=>?_⟩
 have I':=vC I2 f2 J'
 have fk:=I2.m4 (H':=H') hC J'.free
 obtain ⟨f0,f1,_,f3,f4,f5⟩:=fk
 exact ⟨.ref _,H',I'.turned (t':=s'.toks) (fun b o hb e=>(sb.2 b hb).trans e) f0 f1 f3 f4 f5,rfl,q'⟩
theorem JA {i:Nat} {y:Str} {py:Pos} {vF:Pos} {elt iter tg:Expr} {ifs:List Expr} {pos:Pos} {wi:TI} {g:TG} {tt:TT} {te:TE} (hN:X.N.Nodup) (hy:X.N[i]?=some y) (hx:Loc X.env.scope y) (hc:X.calm=true) (hS:jJ X.N ts X.env.scope sc=true) (hi:PI X tg iter wi)
  (hg:∀ cl C fp s H,PG (bC X ts sc cl C fp s H) tg g) (ht:∀ cl C fp s H,EB (bC X ts sc cl C fp s H) ifs tt) (he:∀ cl C fp s H,PE (bC X ts sc cl C fp s H) elt te)
  (JB:swapsWith (.ListComp elt [⟨tg,iter,ifs,0⟩] sc pos) (some (.Name y py)) vF.line X.env=pure true:=by rfl)
  (hs:∀ x,foldedSetIterable iter X.env x=pure x:=by intro _; rfl) (hf:X.fn y=true∨X.env.scope.names.lookup y=some .local:=by first | exact .inl rfl | exact .inr rfl | assumption) :
  PS X (.Assign [.Name y py] (.ListComp elt [⟨tg,iter,ifs,0⟩] sc pos) vF) (Je (ED ts.length wi g tt te) (jx i)):=by
 intro pins s σ H D I h
 have S:=rF hS
 obtain ⟨cl,Us,c1,c2⟩:=h9 (vE I S)
 rw [exec_Assign_Name_used _ _ _ _ JB]
 refine wpAny_bind (wpAny_standAt (wpAny_bind ?_))
 show wpAny _ X.A (do let _ ← comprehension (.ListComp elt [⟨tg,iter,ifs,0⟩] sc pos) sc X.env _ (newList []) false (eval iter X.env) (some (assign (.Name y py) X.env))) _ _ s
 refine wpAny_bind (wpAny_mono (wpAny_comprehension_free (use:=some (assign (.Name y py) X.env)) (Q:=fun _ s'=>SP X pins D .next s') (E:=X.xe) rfl hs Us S.kind S.names ?_) (fun _ s' hq=>wpAny_pure (wpAny_pure hq)) fun _ _ e=>e)
 refine cm (hi pins s σ H _ I h) fun v s1 h1=>cm h1 fun XU s2 h2=>?_
 obtain ⟨it,fp,tn,J,H2,e,I2,T,vo,f2,q2⟩:=h2
 subst e
 refine vD (E:=X.xe) (RR:=fun acc C=>compPost (model X.prog X.w) X.A X.xe (some (assign (.Name y py) X.env)) (fun _ s'=>SP X pins D .next s') acc C) hc I2 T vo f2 S c1 c2 (fun C=>hg cl C fp s2 H2) (fun C=>ht cl C fp s2 H2) (fun C=>he cl C fp s2 H2) (q2 _ (I2.cg.fresh (dm _))) ?_
 intro C H' s' σ' hC J' q'
 obtain ⟨m,hn,_⟩:=J'.loc
 have I':=vC I2 f2 J'
 have fk:=I2.m4 (H':=H') hC J'.free
 obtain ⟨f0,f1,_,f3,f4,f5⟩:=fk
 show wpAny _ X.A (assign (.Name y py) X.env (.ref s2.heap.objs.size)) _ _ s'
 refine wpAny_assign_Name (rm (v:=.ref s2.heap.objs.size) I' hN hy hx rfl (fun s3 I3 ⟨a,sb,ha⟩=>?_) hf)
 have hCa:C≠a:=by
  rcases ha with z | z
  · rw [z]; exact f1
  · exact fun e=>f4 y a z e.symm
 refine ⟨m,hn.sameBut sb hCa,fun h' sb'=>?_⟩
 exact ⟨_,H',I3.turned (t':=s3.toks) (fun b o hb e=>(sb'.2 b hb).trans e) f0 f1 f3 f4 f5,q'⟩
end
def X4 (x:Str):It:=⟨fun i _=>i < x.cps.size,fun i H v H'=>H'=H∧∃ c,x.cps[i]?=some c∧v = .str ⟨#[c]⟩,fun i _=>x.cps.size≤i⟩
theorem c9 (x:Str):(strIterType x="str_ascii_iterator")∨(strIterType x="str_iterator"):=by
 unfold strIterType
 cases x.cps.all (· < 128)
 · exact .inr rfl
 · exact .inl rfl
theorem EE {P:Program} {w:World} {K:KFr} {tg:Expr} (x:Str) (t:Tok) (it:Addr):Turn P w K tg (X4 x) [it] it (fun i h=>h.IsStrIter it (strIterType x) x t i) where
 mem:=by simp
 obj:=fun i h st b hb=>by
  have e:b=it:=by simpa using hb
  subst e
  obtain ⟨o,e,c,d⟩:=st
  exact ⟨o,e,fun v z=>by rw [d] at z; cases z⟩
 keep:=fun i h h' st k=>by
  obtain ⟨o,e,c,d⟩:=st
  exact ⟨o,k it (by simp) o e,c,d⟩
 item:=by
  intro X hP hw hK hc i pins s σ H E I hf st hg
  subst hP hw hK
  obtain ⟨f0,f1,f2,f3,f4,f5⟩:=hf it (by simp)
  have hi:i < x.cps.size:=hg
  have hx:x.cps[i]?=some x.cps[i]:=by simp [hi]
  have fin:∀ h',h'.IsStrIter it (strIterType x) x t (i+1)→Heap.SameBut it s.heap h'→∃ u,(some (Value.str ⟨#[x.cps[i]]⟩ s.toks):Option Value)=some u ∧
    wpAny (model X.prog X.w) X.A (letOwnedTupleGo tg (.ref it) u) (fun _ s2=>∃ y H',Inv X pins σ H' s2∧RelV y u∧(X4 x).TC i H y H'∧Heap.IsStrIter s2.heap it (strIterType x) x t (i+1)∧∀ b∈[it],H' b=none) E { s with heap:=h',toks:=s.toks+1 }:=fun h' yd sb=>by
   have I1:Inv X pins σ H { s with heap:=h',toks:=s.toks+1 }:=I.turned (t':=s.toks+1) (fun b o hb e=>(sb.2 b hb).trans e) f0 f1 f3 f4 f5
   obtain ⟨o,e,c,d⟩:=id yd
   refine ⟨_,rfl,Av (s:={ s with heap:=h',toks:=s.toks+1 }) e c d ?_ ⟨.str ⟨#[x.cps[i]]⟩,H,I1,⟨_,rfl⟩,⟨rfl,_,hx,rfl⟩,yd,fun b hb=>(hf b hb).1⟩⟩
   rcases c9 x with z | z <;> rw [z] <;> decide
  rcases c9 x with z | z
  · rw [z] at st fin
    refine wpAny_pyNext_ascii_item st hx fun h' yd sb=>?_
    have:=fin h' yd sb
    rw [← z] at this
    simpa [z] using this
  · rw [z] at st fin
    refine wpAny_pyNext_wide_item st hx fun h' yd sb=>?_
    have:=fin h' yd sb
    simpa [z] using this
 done:=by
  intro X hP hw hK hc i pins s σ H E I hf st hg
  subst hP hw hK
  obtain ⟨f0,f1,f2,f3,f4,f5⟩:=hf it (by simp)
  have hi:x.cps.size≤i:=hg
  have hx:x.cps[i]?=none:=by simp [hi]
  rcases c9 x with z | z
  · rw [z] at st
    exact wpAny_pyNext_ascii_end (I.ok.hd hc) st hx fun h' eb=>⟨rfl,I.turned (t':=s.toks) (fun b o hb e=>eb b o hb e) f0 f1 f3 f4 f5⟩
  · rw [z] at st
    exact wpAny_pyNext_wide_end (I.ok.hd hc) st hx fun h' eb=>⟨rfl,I.turned (t':=s.toks) (fun b o hb e=>eb b o hb e) f0 f1 f3 f4 f5⟩
 self:=fun A i s Q E st h=>by
  rcases c9 x with z | z
  · rw [z] at st; exact wpAny_pyIter_striter_ascii st h
  · rw [z] at st; exact wpAny_pyIter_striter_wide st h
section
variable {X:Cx} {tg:Expr}
theorem oq (hc:X.calm=true):dA X (.builtin "all") (fun xs H Q=>∃ (p:Addr) (bs:List Bool),xs=[.ref p]∧fA X.K H p (bs.map V.bl)∧Q (.bl (bs.all id)) H):=by
 intro pins s σ H xs us Q I r h
 obtain ⟨p,bs,rfl,hq,q⟩:=h
 obtain ⟨u,rfl,rx⟩:=vals1 r
 cases rx
 obtain ⟨aP,rv,pl,hz⟩:=I.list hq
 refine call_all_walk (wpAny_pyIter_list pl.isList ?_)
 have il:p < s.heap.objs.size:=by obtain ⟨o,n,e,_⟩:=pl; exact fq e
 have eK:p≠s.heap.objs.size:=j4 il
 have hh:X.A.in1.handled=none:=I.ok.hd hc
 refine ⟨s.heap.objs.size,_,_,_,_,_,fun i=>bs.getD i true,rfl,Walks.list hh s.heap.objs.size p eK aP.toArray,⟨⟨_,mZ _ rfl,rfl,rfl⟩,pl.isList.push _⟩,?_,fun h' tk k=>?_⟩
 · intro i v s' Q' E' hP hQ
   have Ut:aP[i]?=some v:=by simpa using hP
   have hb:i < bs.length:=by
    have:=rv.length
    have h2:=(fG.mp Ut).1
    rw [cU] at this
    omega
   obtain ⟨u,e1,r1⟩:=rv.get (i:=i) (x:=.bl bs[i]) (by simp [hb])
   rw [Ut] at e1
   cases e1
   obtain rfl:v=Value.bool bs[i]:=r1
   have e3:bs.getD i true=bs[i]:=by simp [List.getD,hb]
   dsimp only at hQ; rw [e3] at hQ
   exact wpAny_truthy_bool hQ
 · have hl:aP.toArray.size=bs.length:=by have:=rv.length; rw [cU] at this; rw [gF]; omega
   have e:(List.range aP.toArray.size).all (fun i=>bs.getD i true)=bs.all id:=by
    rw [hl,Bool.eq_iff_iff,Oi,Oi]
    constructor
    · intro h x hx
      obtain ⟨i,hi,e⟩:=List.mem_iff_getElem.mp hx
      have:=h i (IE.mpr hi)
      simp only [List.getD,qe hi,Option.getD_some] at this
      rw [← e]; exact this
    · intro h i hi
      have Uu:=IE.mp hi
      simp only [List.getD,qe Uu,Option.getD_some]
      exact h _ (Oj Uu)
   rw [e]
   refine ⟨.bl (bs.all id),H,?_,rfl,q⟩
   have I0:Inv X pins σ H { s with heap:=s.heap.push { cls:=.type "list_iterator",data:=.fields #[.ref p,.int 0 0] } }:=I.kept (t':=s.toks) fun b o e=>fH _ e
   have fk:=I.m4 (H':=H) (dm s.heap.objs.size) I.fresh
   obtain ⟨f0,f1,_,f3,f4,f5⟩:=fk
   exact I0.turned (t':=tk) (fun b o hb e=>k b o (by simpa using hb) e) f0 f1 f3 f4 f5
theorem qp:MX X "str.startswith" (fun x xs H Q=>∃ z y,x = .str z∧xs=[.str y]∧Q (.bl (Txt.startswith z y)) H):=by
 intro pins s σ H x xs v us Q I rx rs h
 obtain ⟨z,y,rfl,rfl,q⟩:=h
 obtain ⟨t,rfl⟩:=rx
 obtain ⟨u,rfl,t',rfl⟩:=vals1 rs
 exact SC.startswith ⟨.bl _,H,I,rfl,q⟩
theorem ot:∀ {ys:List Str} {us:List Value},Vals (ys.map V.str) us→StrsAre us ys
 | [],us,r=>by rw [ME] at r; cases r; exact .nil
 | y :: ys,us,r=>by
   rw [i5] at r
   cases r with
   | cons r1 r2 =>
     obtain ⟨t,e⟩:=r1
     subst e
     exact .cons y t (ot r2)
theorem JC:MX X "str.join" (fun x xs H Q=>∃ (z:Str) (p:Addr) (ys:List Str),x = .str z∧xs=[.ref p]∧fA X.K H p (ys.map V.str)∧(ys.map (·.length)).sum+ys.length * z.length≤16777216∧Q (.str (Txt.join z ys)) H):=by
 intro pins s σ H x xs v us Q I rx rs h
 obtain ⟨z,p,ys,rfl,rfl,hq,hz,q⟩:=h
 obtain ⟨t,rfl⟩:=rx
 obtain ⟨u,rfl,r1⟩:=vals1 rs
 cases r1
 obtain ⟨aP,rv,pl,_⟩:=I.list hq
 exact join_list pl.isList (by simpa using ot rv) hz fun t' k=>⟨.str _,H,I.tok _,⟨_,rfl⟩,q⟩
def Uv:V→Option Int→Option Int→Hp→VK→Prop:=fun x lo hi H Q=>∃ z,x = .str z∧z.length≤sizeLine∧Q (.str (Txt.slice z lo hi)) H
theorem Pl:Eo X Uv:=by
 intro pins s σ H x v vl vu lo hi sl Q I rx hs pl pu h
 obtain ⟨z,rfl,hz,q⟩:=h
 obtain ⟨t,rfl⟩:=rx
 obtain ⟨o,e,c,d⟩:=hs
 refine ⟨"str",_,slot_str_getitem.lookup,typeIs_str _ _ _,?_⟩
 cases pl with
 | none =>
   cases pu with
   | none=>exact wpAny_getItem_str_slice (l:=none) (u:=none) (st:=none) ⟨o,e,c,d⟩ rfl (post_val_or_str ⟨k0 (Txt.slice_le z _ _) hz,fun t' k=>⟨.str _,H,I.tok _,⟨_,rfl⟩,q⟩⟩)
   | int j tj=>exact wpAny_getItem_str_slice (l:=none) (u:=some (j,tj)) (st:=none) ⟨o,e,c,d⟩ rfl (post_val_or_str ⟨k0 (Txt.slice_le z _ _) hz,fun t' k=>⟨.str _,H,I.tok _,⟨_,rfl⟩,q⟩⟩)
 | int i ti =>
   cases pu with
   | none=>exact wpAny_getItem_str_slice (l:=some (i,ti)) (u:=none) (st:=none) ⟨o,e,c,d⟩ rfl (post_val_or_str ⟨k0 (Txt.slice_le z _ _) hz,fun t' k=>⟨.str _,H,I.tok _,⟨_,rfl⟩,q⟩⟩)
   | int j tj=>exact wpAny_getItem_str_slice (l:=some (i,ti)) (u:=some (j,tj)) (st:=none) ⟨o,e,c,d⟩ rfl (post_val_or_str ⟨k0 (Txt.slice_le z _ _) hz,fun t' k=>⟨.str _,H,I.tok _,⟨_,rfl⟩,q⟩⟩)
end
theorem aG {H:Hp} {D:Addr} {o:HO} (h:H D=none):aN H (upd H D o):=fun b u e=>by rw [aA (a9 e h)]; exact e
section
variable {X:Cx} {pins:List (Addr×Obj)} {σ:St} {H H':Hp} {s:Shared} {h':Heap}
theorem Inv.grown {t':Nat} {ch:List Addr} {t:Addr} {o:HO} (I:Inv X pins σ H s) (k:∀ b u,b∉ch→s.heap.get? b=some u→h'.get? b=some u) (hf:∀ b∈ch,k5 X pins H b) (ht:s.heap.objs.size≤t)
  (new:cw X.prog X.w (upd H t o) h' t o):Inv X pins σ (upd H t o) { s with heap:=h',toks:=t' }:=by
 have hn:H t=none:=I.cg.fresh ht
 have D':∀ b u,H b=some u→b∉ch:=fun b u e z=>by rw [(hf b z).1] at e; cases e
 refine I.step (g':=s.gens) (d':=s.drawn) (ch:=ch) (fun b hb=>?_) (fun b u _ _ hc e _=>k b u hc e) (fun b u _ _ hc e _=>⟨u.slots,k b u hc e⟩) (fun b u _ e n=>?_) (fun b u hc e=>⟨u,k b u hc e⟩)
  (fun b xs e=>?_) (fun b u v e=>?_) (fun b ps e=>⟨#[],?_⟩) (fun m hm=>?_) (fun b u e=>?_) I.bare
 · obtain ⟨_,f1,_,f3,f4,f5⟩:=hf b hb
   exact ⟨f3,f1,f4,f5⟩
 · rw [aA (j4 (rg (fq e) ht))]; exact n
 · rw [aA (a9 e hn)]; exact e
 · rw [aA (a9 e hn)]; exact e
 · rw [aA (a9 e hn),e]; simp
 · obtain ⟨ob,es,ep,ho,r⟩:=hm
   exact ⟨ob,es,ep,k _ ob (fun z=>(hf _ z).2.1 rfl) ho,r⟩
 · by_cases hb:b=t
   · subst hb; rw [aI] at e; cases e; exact new
   · rw [aA hb] at e
     refine (I.cg b u e).x9 (fun c v hc q=>k c v ?_ q) (fun c q=>by rw [aA (a9 q hn)]; exact q) fun c xs q=>by rw [aA (a9 q hn)]; exact q
     rcases hc with z | z
     · rw [z]; exact D' b u e
     · exact D' c _ z
end
def ZE (K:KFr) (a:Addr):It :=
 ⟨fun i H=>∃ xs x,fA K H a xs∧xs[i]?=some x,fun i H v H'=>∃ t x,H t=none∧v = .ref t∧(∀ xs,fA K H a xs→xs[i]?=some x)∧H'=upd H t (.tup [.int (i:Int),x]),fun i H=>∃ xs,fA K H a xs∧xs.length≤i⟩
theorem B1 {P:Program} {w:World} {K:KFr} {elts:List Expr} {x1} {tp:Pos} (a e it:Addr) (eK:e≠it) :
  Turn P w K (.Tuple elts x1 tp) (ZE K a) [e,it] e (fun i h=>(∃ old,IsEnum h e it (i:Int) old)∧h.IsListIter it a i) where
 mem:=by simp
 obj:=fun i h st b hb=>by
  obtain ⟨⟨old,h1⟩,o,h2,c,d⟩:=st
  rcases cY.mp hb with z | z
  · subst z
    exact ⟨_,h1,fun v z=>by cases z⟩
  · have z':b=it:=by simpa using z
    subst z'
    exact ⟨o,h2,fun v z=>by rw [d] at z; cases z⟩
 keep:=fun i h h' st k=>by
  obtain ⟨⟨old,h1⟩,vo⟩:=st
  exact ⟨⟨old,k e (by simp) _ h1⟩,vo.at fun o q=>k it (by simp) o q⟩
 item:=by
  intro X hP hw hK hc i pins s σ H E I hf st hg
  subst hP hw hK
  obtain ⟨xs,x,hq,hx⟩:=hg
  obtain ⟨aP,rv,p,hz⟩:=I.list hq
  obtain ⟨u,hu,ru⟩:=rv.get hx
  obtain ⟨⟨old,h1⟩,vo⟩:=st
  refine wpAny_pyNext_enum_item h1 vo p.isList (x:=u) (by simpa using hu) eK fun h₁ IG Pm ZF DO ZG=>?_
  refine ⟨_,rfl,wpAny_letOwnedTupleGo_enum IG fun h₂ ZH ou=>?_⟩
  have ka:Heap.SameBut e h₁ h₂:=ou
  have il:e < s.heap.objs.size:=fq h1
  have Uw:s.heap.objs.size≠e:=BC il
  have kk:∀ b ob,b∉[e,it]→s.heap.get? b=some ob→h₂.get? b=some ob:=fun b ob hb q=>by
   have BF:b≠e:=fun z=>hb (by simp [z])
   have hbi:b≠it:=fun z=>hb (by simp [z])
   exact (ka.2 b BF).trans (ZG b ob BF hbi q)
  have new:cw X.prog X.w (upd H s.heap.objs.size (.tup [.int (i:Int),x])) h₂ s.heap.objs.size (.tup [.int (i:Int),x]) :=
   ⟨by show 2≤sizeLine; rw [sizeLine_eq]; decide,[.int i s.toks,u],.cons ⟨_,rfl⟩ (.cons ru .nil),⟨_,(ka.2 _ Uw).trans ZF,rfl,_,rfl⟩⟩
  refine ⟨.ref s.heap.objs.size,upd H s.heap.objs.size (.tup [.int (i:Int),x]),I.grown (t':=s.toks+1) kk hf (dm _) new,rfl,⟨_,x,I.fresh,rfl,fun ys hy=>by rw [I.j7 hy hq]; exact hx,rfl⟩,⟨⟨u,?_⟩,?_⟩,fun b hb=>?_⟩
  · have:((i:Int)+1)=((i+1:Nat):Int):=by omega
    rw [← this]; exact ZH
  · obtain ⟨o,q,r⟩:=Pm
    exact ⟨o,(ka.2 it (Ne.symm eK)).trans q,r⟩
  · have SK:b < s.heap.objs.size:=by
     rcases cY.mp hb with z | z
     · subst z; exact il
     · have z':b=it:=by simpa using z
       subst z'
       obtain ⟨o,q,_⟩:=vo
       exact fq q
    rw [aA (j4 SK)]
    exact (hf b hb).1
 done:=by
  intro X hP hw hK hc i pins s σ H E I hf st hg
  subst hP hw hK
  obtain ⟨xs,hq,hx⟩:=hg
  obtain ⟨aP,rv,p,hz⟩:=I.list hq
  have hl:=rv.length
  obtain ⟨⟨old,h1⟩,vo⟩:=st
  obtain ⟨f0,f1,f2,f3,f4,f5⟩:=hf it (by simp)
  exact wpAny_pyNext_enum_end (I.ok.hd hc) h1 vo p.isList (by simp; omega) fun h' eb=>⟨rfl,I.turned (t':=s.toks) (fun b o hb q=>eb b o hb q) f0 f1 f3 f4 f5⟩
 self:=fun _ _ _ _ _ st h=>by
  obtain ⟨⟨old,h1⟩,_⟩:=st
  exact wpAny_pyIter_enum h1 h
def Ux (K:KFr) (ta:TA):TI:=fun σ H R=>ta σ H fun vs H1=>∃ a,vs=[.ref a]∧(∃ xs,fA K H1 a xs)∧R (ZE K a) H1
section
variable {X:Cx}
theorem boot_enumerate:bootBuiltins "enumerate" = some (.type "enumerate"):=by decide +kernel
theorem JD {elts:List Expr} {x1} {tp:Pos} {a:Expr} {ta:TA} {p pos:Pos} (hg:Gl X "enumerate") (hm:X.mg "enumerate" = none) (ha:PA X [a] ta) (hs:starEach [a] X.env=[(false,eval a X.env)]:=by rfl) :
  PI X (.Tuple elts x1 tp) (.Call (.Name "enumerate" p) [a] [] pos) (Ux X.K ta):=by
 intro pins s σ H R I h
 refine Call_ (ip I hg hm boot_enumerate (Sw (cm (ha pos pins s σ H _ I h) fun us s1 ⟨vs,H1,I1,r1,q1⟩=>?_) hs rfl))
 obtain ⟨b,e,⟨xs,hq⟩,q⟩:=q1
 subst e
 obtain ⟨u,rfl,ru⟩:=vals1 r1
 cases ru
 obtain ⟨aP,rv,pl,hz⟩:=I1.list hq
 refine call_enumerate_list pl.isList fun h' he hit hsz hk=>?_
 have I2:Inv X pins σ H1 { s1 with heap:=h' }:=I1.kept (t':=s1.toks) hk
 refine wpAny_pyIter_enum he ?_
 refine ⟨s1.heap.objs.size+1,[s1.heap.objs.size+1,s1.heap.objs.size],_,_,H1,rfl,I2,B1 b _ _ (BC (DW _)),⟨⟨_,he⟩,hit⟩,fun c hc=>?_,q⟩
 rcases cY.mp hc with z | z
 · subst z; exact I1.m4 (Ot _) (I1.cg.fresh (Ot _))
 · have z':c=s1.heap.objs.size:=by simpa using z
   subst z'; exact I1.m4 (dm _) I1.fresh
end
section
variable {X:Cx}
end
end L2
namespace AG
open PySem Builtin Builtin.Str
def bP:Str:="abcdefghijklmnopqrstuvwxyz"
def B2 (c:Nat):Bool:=!(occurrences bP ⟨#[c]⟩ 0 bP.length 1).isEmpty
theorem JE:B2 46=false:=by decide +kernel
theorem Pn:(("." : String):Str)=⟨#[46]⟩:=by decide +kernel
def c_ (x:Str):Bool:=decide (1≤(x.length:Int)) && (decide ((x.length:Int)≤8) && x.cps.toList.all B2)
def Po (x:Str):Bool:=Txt.startswith x "." && c_ (Txt.slice x (some 1) none)
theorem qq {x:Str} (h:x.cps.toList.all B2=true):Txt.startswith x "." = false:=by
 obtain ⟨⟨l⟩⟩:=x
 rw [Pn]
 unfold Txt.startswith subAt
 cases l with
 | nil=>rfl
 | cons c r =>
   have hc:B2 c=true:=by
    have:=Oi.mp h c (by simp)
    exact this
   have ne:c≠46:=fun e=>by rw [e,JE] at hc; cases hc
   have e1:(Array.extract ({ toList:=c :: r }:Array Nat) 0 (0+(Str.mk #[46]).length) == (Str.mk #[46]).cps)=false:=by
    rw [beq_eq_false_iff_ne]
    intro q
    have q2:=congrArg (fun a=>a[0]?) q
    simp [Str.length] at q2
    exact ne q2
   show (decide _ && (Array.extract ({ toList:=c :: r }:Array Nat) 0 (0+(Str.mk #[46]).length) == (Str.mk #[46]).cps))=false
   rw [e1,Bool.and_false]
theorem sS {x:Str} (h:c_ x=true):x.cps.toList.all B2=true:=by
 unfold c_ at h
 rw [my,my] at h
 exact h.2.2
end AG
namespace VT
open PySem PySem.Spec PyProof.Rows L2
abbrev St:=L2.St
inductive T where
 | aT | bl (b:Bool) | int (i:Int) | str (x:Str) | tup (l:List T) | lst (l:List T) | dk (ks:List Key) (vs:List T) | dt (ks:List (List Key)) (vs:List T) | df (o:Obj) (ks:List (List Key)) (vs:List T) | dz (o:Obj) (ks:List Key) (vs:List T) | kt (k:List Key) | ins (C:Addr) (ns:List Str) (vs:List T) | pin (a:Addr) (t:T) | ob (a:Addr) | ty (n:String)
def qr (K:KFr) (H:Hp) (O:List Addr) (a:Addr) (vs:List V):Prop :=
 (Rd H a (.lst vs)∧a∉O)∨∃ (o:Obj) (aP:Array Value) (n:Nat),K.lookup a=some o∧o.cls = .type "list"∧o.dict=none∧o.data = .seq aP n∧aP.size≤sizeLine∧Vals vs aP.toList
theorem qr.sq {K:KFr} {H:Hp} {O:List Addr} {a:Addr} {vs:List V} (h:qr K H O a vs):fA K H a vs:=by
 rcases h with h | h
 · exact .inl h.1
 · exact .inr h
def qt (H:Hp) (O:List Addr) (a:Addr) (u:HO):Prop:=H a=some u∧a∉O
mutual
def At (K:KFr) (H:Hp) (O:List Addr):T→V→Prop
 | .aT,v=>v = .aT
 | .bl b,v=>v = .bl b
 | .int i,v=>v = .int i
 | .str x,v=>v = .str x
 | .ob a,v=>v = .ref a
 | .ty n,v=>v = .ty n
 | .tup ts,v=>∃ a vs,v = .ref a∧dG K H a vs∧az K H O ts vs
 | .lst ts,v=>∃ a vs,v = .ref a∧qr K H O a vs∧az K H O ts vs
 | .dk ks ts,v=>∃ a vs,v = .ref a∧ks.length=vs.length∧qt H O a (.dK (ks.zip vs))∧az K H O ts vs
 | .dt ks ts,v=>∃ a vs,v = .ref a∧ks.length=vs.length∧qt H O a (.dT (ks.zip vs))∧az K H O ts vs
 | .df o ks ts,v=>∃ a vs,v = .ref a∧ks.length=vs.length∧qt H O a (.vh o (.dT (ks.zip vs)))∧az K H O ts vs
 | .dz o ks ts,v=>∃ a vs,v = .ref a∧ks.length=vs.length∧qt H O a (.vh o (.dK (ks.zip vs)))∧az K H O ts vs
 | .kt k,v=>∃ a,v = .ref a∧qt H O a (.tup (k.map kV))
 | .pin a t,v=>v = .ref a∧At K H O t v
 | .ins C ns ts,v=>∃ a dx vs,v = .ref a∧ns.length=vs.length∧qt H O a (.ins C dx (ns.zip vs))∧az K H O ts vs
def az (K:KFr) (H:Hp) (O:List Addr):List T→List V→Prop
 | [],vs=>vs=[]
 | t :: ts,vs=>∃ v r,vs=v :: r∧At K H O t v∧az K H O ts r
end
section
variable {K:KFr} {H H':Hp} {O O':List Addr}
mutual
theorem At.map (hl:∀ a vs,qr K H O a vs→qr K H' O' a vs) (ht:∀ a vs,dG K H a vs→dG K H' a vs) (hd:∀ a u,qt H O a u→qt H' O' a u):∀ {t:T} {v:V},At K H O t v→At K H' O' t v
 | .aT,_,h=>by simpa only [At] using h
 | .bl _,_,h=>by simpa only [At] using h
 | .int _,_,h=>by simpa only [At] using h
 | .str _,_,h=>by simpa only [At] using h
 | .ob _,_,h=>by simpa only [At] using h
 | .ty _,_,h=>by simpa only [At] using h
 | .tup ts,_,h=>by
   simp only [At] at h ⊢
   obtain ⟨a,vs,e,h1,h2⟩:=h
   exact ⟨a,vs,e,ht a vs h1,az.map hl ht hd h2⟩
 | .lst ts,_,h=>by
   simp only [At] at h ⊢
   obtain ⟨a,vs,e,h1,h2⟩:=h
   exact ⟨a,vs,e,hl a vs h1,az.map hl ht hd h2⟩
 | .dk ks ts,_,h=>by
   simp only [At] at h ⊢
   obtain ⟨a,vs,e,h0,h1,h2⟩:=h
   exact ⟨a,vs,e,h0,hd _ _ h1,az.map hl ht hd h2⟩
 | .dt ks ts,_,h=>by
   simp only [At] at h ⊢
   obtain ⟨a,vs,e,h0,h1,h2⟩:=h
   exact ⟨a,vs,e,h0,hd _ _ h1,az.map hl ht hd h2⟩
 | .df o ks ts,_,h=>by
   simp only [At] at h ⊢
   obtain ⟨a,vs,e,h0,h1,h2⟩:=h
   exact ⟨a,vs,e,h0,hd _ _ h1,az.map hl ht hd h2⟩
 | .dz o ks ts,_,h=>by
   simp only [At] at h ⊢
   obtain ⟨a,vs,e,h0,h1,h2⟩:=h
   exact ⟨a,vs,e,h0,hd _ _ h1,az.map hl ht hd h2⟩
 | .kt k,_,h=>by
   simp only [At] at h ⊢
   obtain ⟨a,e,h1⟩:=h
   exact ⟨a,e,hd _ _ h1⟩
 | .pin a t,_,h=>by
   simp only [At] at h ⊢
   exact ⟨h.1,At.map hl ht hd h.2⟩
 | .ins C ns ts,_,h=>by
   simp only [At] at h ⊢
   obtain ⟨a,dx,vs,e,h0,h1,h2⟩:=h
   exact ⟨a,dx,vs,e,h0,hd _ _ h1,az.map hl ht hd h2⟩
theorem az.map (hl:∀ a vs,qr K H O a vs→qr K H' O' a vs) (ht:∀ a vs,dG K H a vs→dG K H' a vs) (hd:∀ a u,qt H O a u→qt H' O' a u):∀ {ts:List T} {vs:List V},az K H O ts vs→az K H' O' ts vs
 | [],_,h=>by simpa only [az] using h
 | t :: ts,_,h=>by
   simp only [az] at h ⊢
   obtain ⟨v,r,e,h1,h2⟩:=h
   exact ⟨v,r,e,At.map hl ht hd h1,az.map hl ht hd h2⟩
end
theorem Rd.same {a:Addr} {u:HO} (s:aN H H') (h:Rd H a u):Rd H' a u:=by
 rcases h with h | ⟨o,h⟩
 · exact .inl (s _ _ h)
 · exact .inr ⟨o,s _ _ h⟩
theorem dG.same {a:Addr} {vs:List V} (s:aN H H') (h:dG K H a vs):dG K H' a vs:=by
 rcases h with h | h
 · exact .inl (Rd.same s h)
 · exact .inr h
theorem qr.same {a:Addr} {vs:List V} (s:aN H H') (h:qr K H O a vs):qr K H' O a vs:=by
 rcases h with h | h
 · exact .inl ⟨Rd.same s h.1,h.2⟩
 · exact .inr h
theorem At.same {t:T} {v:V} (s:aN H H') (h:At K H O t v):At K H' O t v:=At.map (fun _ _ q=>q.same s) (fun _ _ q=>dG.same s q) (fun _ _ q=>⟨s _ _ q.1,q.2⟩) h
theorem az.same {t:List T} {v:List V} (s:aN H H') (h:az K H O t v):az K H' O t v:=az.map (fun _ _ q=>q.same s) (fun _ _ q=>dG.same s q) (fun _ _ q=>⟨s _ _ q.1,q.2⟩) h
theorem At.aX {t:T} {v:V} (s:∀ a∈O',a∈O) (h:At K H O t v):At K H O' t v :=
 At.map (fun a vs q=>q.elim (fun z=>.inl ⟨z.1,fun m=>z.2 (s a m)⟩) .inr) (fun _ _ q=>q) (fun a _ q=>⟨q.1,fun m=>q.2 (s a m)⟩) h
theorem az.aX {t:List T} {v:List V} (s:∀ a∈O',a∈O) (h:az K H O t v):az K H O' t v :=
 az.map (fun a vs q=>q.elim (fun z=>.inl ⟨z.1,fun m=>z.2 (s a m)⟩) .inr) (fun _ _ q=>q) (fun a _ q=>⟨q.1,fun m=>q.2 (s a m)⟩) h
theorem Rd.some {a:Addr} {u:HO} (h:Rd H a u):H a≠none:=by
 rcases h with h | ⟨o,h⟩ <;> rw [h] <;> simp
theorem At.more {t:T} {v:V} (s:∀ a∈O',a∈O∨H a=none) (h:At K H O t v):At K H O' t v :=
 At.map (fun a vs q=>q.elim (fun z=>.inl ⟨z.1,fun m=>(s a m).elim z.2 (Rd.some z.1)⟩) .inr) (fun _ _ q=>q) (fun a aY q=>⟨q.1,fun m=>(s a m).elim q.2 (by rw [q.1]; simp)⟩) h
theorem az.more {t:List T} {v:List V} (s:∀ a∈O',a∈O∨H a=none) (h:az K H O t v):az K H O' t v :=
 az.map (fun a vs q=>q.elim (fun z=>.inl ⟨z.1,fun m=>(s a m).elim z.2 (Rd.some z.1)⟩) .inr) (fun _ _ q=>q) (fun a aY q=>⟨q.1,fun m=>(s a m).elim q.2 (by rw [q.1]; simp)⟩) h
def jK:HO→Bool
 | .lst _=>true
 | .dK _=>true
 | .dT _=>true
 | .ins _ _ _=>true
 | _=>false
theorem At.wrote {t:T} {v:V} {a:Addr} {o u:HO} (ha:a∈O) (hu:H a=some u) (hm:jK u=true) (h:At K H O t v):At K (upd H a o) O t v:=by
 have ne:∀ b,b∉O→b≠a:=fun b hb e=>hb (by rw [e]; exact ha)
 refine At.map (fun b vs q=>?_) (fun b vs q=>?_) (fun b aY q=>?_) h
 · rcases q with q | q
   · refine .inl ⟨?_,q.2⟩
     rcases q.1 with z | ⟨o',z⟩
     · exact .inl (by rw [aA (ne b q.2)]; exact z)
     · exact .inr ⟨o',by rw [aA (ne b q.2)]; exact z⟩
   · exact .inr q
 · rcases q with z | z
   · refine .inl ?_
     rcases z with z | ⟨o',z⟩
     · exact .inl (by rw [aA (DZ z hu (by intro e; subst e; cases hm))]; exact z)
     · exact .inr ⟨o',by rw [aA (DZ z hu (by intro e; subst e; cases hm))]; exact z⟩
   · exact .inr z
 · exact ⟨by rw [aA (ne b q.2)]; exact q.1,q.2⟩
theorem az.iff {ts:List T}:∀ {vs:List V},az K H O ts vs↔Paired (fun v t=>At K H O t v) vs ts:=by
 induction ts with
 | nil=>intro vs; simp only [az]; exact ⟨fun e=>by subst e; exact .nil,fun h=>by cases h; rfl⟩
 | cons t ts ih =>
   intro vs
   simp only [az]
   constructor
   · rintro ⟨v,r,rfl,h1,h2⟩
     exact .cons h1 (ih.mp h2)
   · intro h
     cases h with
     | cons h1 h2=>exact ⟨_,_,rfl,h1,ih.mpr h2⟩
theorem az.wrote {t:List T} {v:List V} {a:Addr} {o u:HO} (ha:a∈O) (hu:H a=some u) (hm:jK u=true) (h:az K H O t v):az K (upd H a o) O t v :=
 az.iff.mpr (Paired.qj (az.iff.mp h) fun _ _ q=>q.wrote ha hu hm)
theorem az.length {ts:List T} {vs:List V} (h:az K H O ts vs):vs.length=ts.length:=Paired.length (az.iff.mp h)
theorem az.get {ts:List T} {vs:List V} (h:az K H O ts vs) {i:Nat} {t:T} (e:ts[i]?=some t):∃ v,vs[i]?=some v∧At K H O t v:=by
 have q:=az.iff.mp h
 clear h
 induction q generalizing i with
 | nil=>simp at e
 | cons r _ ih =>
   cases i with
   | zero=>simp at e; subst e; exact ⟨_,rfl,r⟩
   | succ i=>obtain ⟨v,h1,h2⟩:=ih (i:=i) (by simpa using e); exact ⟨v,by simpa using h1,h2⟩
theorem az.cons {t:T} {ts:List T} {v:V} {vs:List V} (h:At K H O t v) (hs:az K H O ts vs):az K H O (t :: ts) (v :: vs):=by
 simp only [az]; exact ⟨v,vs,rfl,h,hs⟩
theorem az.nil:az K H O [] []:=by simp only [az]
theorem az.append {ts us:List T} {vs ws:List V} (h:az K H O ts vs) (h':az K H O us ws):az K H O (ts ++ us) (vs ++ ws):=by
 rw [az.iff] at h h' ⊢
 induction h with
 | nil=>exact h'
 | cons r _ ih=>exact .cons r ih
theorem az.drop {ts:List T} {vs:List V} (n:Nat) (h:az K H O ts vs):az K H O (ts.drop n) (vs.drop n):=by
 rw [az.iff] at h ⊢
 induction h generalizing n with
 | nil=>cases n <;> exact .nil
 | cons r t ih=>cases n with
   | zero=>exact .cons r t
   | succ n=>exact ih n
theorem az.take {ts:List T} {vs:List V} (n:Nat) (h:az K H O ts vs):az K H O (ts.take n) (vs.take n):=by
 rw [az.iff] at h ⊢
 induction h generalizing n with
 | nil=>cases n <;> exact .nil
 | cons r t ih=>cases n with
   | zero=>exact .nil
   | succ n=>exact .cons r (ih n)
theorem az.set {ts:List T} {vs:List V} {t:T} {v:V} (i:Nat) (h:az K H O ts vs) (q:At K H O t v):az K H O (ts.set i t) (vs.set i v):=by
 rw [az.iff] at h ⊢
 induction h generalizing i with
 | nil=>exact .nil
 | cons r s ih=>cases i with
   | zero=>exact .cons q s
   | succ i=>exact .cons r (ih i)
end
mutual
def bU:T→Bool
 | .tup ts=>eR ts
 | .lst _=>false
 | .dk _ _=>false
 | .dt _ _=>false
 | .df _ _ _=>false
 | .dz _ _ _=>false
 | .kt _=>false
 | .ins _ _ _=>false
 | .pin _ _=>false
 | _=>true
def eR:List T→Bool
 | []=>true
 | t :: ts=>bU t && eR ts
end
section
variable {K:KFr} {H H':Hp} {O O':List Addr}
mutual
theorem At.bU:∀ {t:T} {v:V},bU t=true→At K H O t v→At K H O' t v
 | .aT,_,_,h=>by simpa only [At] using h
 | .bl _,_,_,h=>by simpa only [At] using h
 | .int _,_,_,h=>by simpa only [At] using h
 | .str _,_,_,h=>by simpa only [At] using h
 | .ob _,_,_,h=>by simpa only [At] using h
 | .ty _,_,_,h=>by simpa only [At] using h
 | .tup ts,_,i,h=>by
   simp only [At] at h ⊢
   simp only [VT.bU] at i
   obtain ⟨a,vs,e,h1,h2⟩:=h
   exact ⟨a,vs,e,h1,az.bU i h2⟩
 | .lst ts,_,i,h=>by simp only [VT.bU] at i; cases i
 | .dk _ _,_,i,h=>by simp only [VT.bU] at i; cases i
 | .dt _ _,_,i,h=>by simp only [VT.bU] at i; cases i
 | .df _ _ _,_,i,h=>by simp only [VT.bU] at i; cases i
 | .dz _ _ _,_,i,h=>by simp only [VT.bU] at i; cases i
 | .kt _,_,i,h=>by simp only [VT.bU] at i; cases i
 | .ins _ _ _,_,i,h=>by simp only [VT.bU] at i; cases i
 | .pin _ _,_,i,h=>by simp only [VT.bU] at i; cases i
theorem az.bU:∀ {ts:List T} {vs:List V},eR ts=true→az K H O ts vs→az K H O' ts vs
 | [],_,_,h=>by simpa only [az] using h
 | t :: ts,_,i,h=>by
   simp only [VT.eR,my] at i
   simp only [az] at h ⊢
   obtain ⟨v,r,e,h1,h2⟩:=h
   exact ⟨v,r,e,At.bU i.1 h1,az.bU i.2 h2⟩
end
end
abbrev En:=List (Option (T×Bool))
structure Zc where
 H0:Hp
 P:List (Nat×Addr)
 Ox:List Addr
def Zc.ex (Z:Zc) (a:Addr):Zc:={ Z with Ox:=a :: Z.Ox }
def cC (K:KFr) (H:Hp) (A:List Addr) (a:Addr):T→Prop
 | .lst ts=>∃ vs,H a=some (.lst vs)∧az K H A ts vs
 | .dk ks ts=>∃ vs,ks.length=vs.length∧H a=some (.dK (ks.zip vs))∧az K H A ts vs
 | .dt ks ts=>∃ vs,ks.length=vs.length∧H a=some (.dT (ks.zip vs))∧az K H A ts vs
 | .ins C ns ts=>∃ dx vs,ns.length=vs.length∧H a=some (.ins C dx (ns.zip vs))∧az K H A ts vs
 | _=>False
def lb (K:KFr) (H:Hp) (A:List Addr):Option (T×Bool)→Option Addr→Option V→Prop
 | none,o,_=>o=none
 | some (t,false),o,s=>o=none∧∃ v,s=some v∧At K H A t v
 | some (t,true),o,s=>∃ a,o=some a∧s=some (.ref a)∧cC K H A a t
def roots (O:List (Option Addr)):List Addr:=O.filterMap id
def av (Z:Zc) (O:List (Option Addr)):List Addr:=roots O ++ Z.Ox
structure ax (K:KFr) (Z:Zc) (tm:List (T×V)) (O:List (Option Addr)) (ρ:En) (σ:St) (H:Hp):Prop where
 lσ:σ.length=ρ.length
 lO:O.length=ρ.length
 sl:∀ (i:Nat) e,ρ[i]?=some e→∃ o s,O[i]?=some o∧σ[i]?=some s∧lb K H (av Z O) e o s
 nd:(roots O).Nodup
 own:∀ a∈roots O,(a∈Z.P.map (·.2)∨Z.H0 a=none)∧a∉Z.Ox∧∃ u,H a=some u∧jK u=true
 par:∀ p∈Z.P,O[p.1]?=some (some p.2)
 ox:∀ a∈Z.Ox,H a≠none
 keep:∀ b o,Z.H0 b=some o→b∉Z.P.map (·.2)→H b=some o
 m6:∀ p∈tm,At K H (av Z O) p.1 p.2
section
variable {K:KFr} {Z:Zc} {tm:List (T×V)} {O:List (Option Addr)} {ρ:En} {σ:St} {H H':Hp}
theorem cC.map {A A':List Addr} {a:Addr} {t:T} (h:cC K H A a t) (h1:H' a=H a) (h2:∀ ts vs,az K H A ts vs→az K H' A' ts vs):cC K H' A' a t:=by
 cases t with
 | lst ts=>obtain ⟨vs,e,q⟩:=h; exact ⟨vs,h1.trans e,h2 _ _ q⟩
 | dk ks ts=>obtain ⟨vs,l,e,q⟩:=h; exact ⟨vs,l,h1.trans e,h2 _ _ q⟩
 | dt ks ts=>obtain ⟨vs,l,e,q⟩:=h; exact ⟨vs,l,h1.trans e,h2 _ _ q⟩
 | ins C ns ts=>obtain ⟨dx,vs,l,e,q⟩:=h; exact ⟨dx,vs,l,h1.trans e,h2 _ _ q⟩
 | _=>exact h.elim
theorem cC.mut {A:List Addr} {a:Addr} {t:T} (h:cC K H A a t):∃ u,H a=some u∧jK u=true:=by
 cases t with
 | lst ts=>obtain ⟨vs,e,q⟩:=h; exact ⟨_,e,rfl⟩
 | dk ks ts=>obtain ⟨vs,l,e,q⟩:=h; exact ⟨_,e,rfl⟩
 | dt ks ts=>obtain ⟨vs,l,e,q⟩:=h; exact ⟨_,e,rfl⟩
 | ins C ns ts=>obtain ⟨dx,vs,l,e,q⟩:=h; exact ⟨_,e,rfl⟩
 | _=>exact h.elim
theorem cC.aX {A A':List Addr} {a:Addr} {t:T} (h:cC K H A a t) (s:∀ b∈A',b∈A):cC K H A' a t:=h.map rfl fun _ _ q=>q.aX s
theorem cC.same {A:List Addr} {a:Addr} {t:T} (h:cC K H A a t) (s:aN H H'):cC K H' A a t:=by
 obtain ⟨u,e,_⟩:=h.mut
 exact h.map (by rw [e]; exact s _ _ e) fun _ _ q=>q.same s
theorem cC.at {A:List Addr} {a:Addr} {t:T} (h:cC K H A a t) (n:a∉A):At K H A t (.ref a):=by
 cases t with
 | lst ts=>obtain ⟨vs,e,q⟩:=h; simp only [At]; exact ⟨a,vs,rfl,.inl ⟨.inl e,n⟩,q⟩
 | dk ks ts=>obtain ⟨vs,l,e,q⟩:=h; simp only [At]; exact ⟨a,vs,rfl,l,⟨e,n⟩,q⟩
 | dt ks ts=>obtain ⟨vs,l,e,q⟩:=h; simp only [At]; exact ⟨a,vs,rfl,l,⟨e,n⟩,q⟩
 | ins C ns ts=>obtain ⟨dx,vs,l,e,q⟩:=h; simp only [At]; exact ⟨a,dx,vs,rfl,l,⟨e,n⟩,q⟩
 | _=>exact h.elim
theorem lb.map {A A':List Addr} {e:Option (T×Bool)} {o:Option Addr} {s:Option V} (h:lb K H A e o s) (h1:∀ t v,At K H A t v→At K H' A' t v) (h2:∀ a t,o=some a→cC K H A a t→cC K H' A' a t):lb K H' A' e o s:=by
 match e,h with
 | none,h=>exact h
 | some (t,false),⟨e,v,es,q⟩=>exact ⟨e,v,es,h1 _ _ q⟩
 | some (t,true),⟨a,e,es,q⟩=>exact ⟨a,e,es,h2 _ _ e q⟩
theorem aK {a:Addr}:a∈roots O↔some a∈O:=by
 unfold roots
 rw [List.mem_filterMap]
 exact ⟨fun ⟨x,h,e⟩=>by rw [id] at e; rw [← e]; exact h,fun h=>⟨_,h,rfl⟩⟩
theorem ax.xZ (I:ax K Z tm O ρ σ H):∀ a∈av Z O,H a≠none:=fun a h=>by
 rcases cA.mp h with h | h
 · obtain ⟨_,_,u,e,_⟩:=I.own a h; rw [e]; simp
 · exact I.ox a h
theorem ax.same (I:ax K Z tm O ρ σ H) (s:aN H H'):ax K Z tm O ρ σ H' :=
 ⟨I.lσ,I.lO,fun i e h=>let ⟨o,w,h1,h2,h3⟩:=I.sl i e h; ⟨o,w,h1,h2,h3.map (fun _ _ q=>q.same s) fun _ _ _ q=>q.same s⟩,I.nd,
   fun a h=>let ⟨h1,h2,u,e,m⟩:=I.own a h; ⟨h1,h2,u,s _ _ e,m⟩,I.par,fun a h=>by
    cases e:H a with
    | none=>exact absurd e (I.ox a h)
    | some u=>rw [s _ _ e]; simp,
   fun b o e n=>s _ _ (I.keep b o e n),fun p hp=>(I.m6 p hp).same s⟩
theorem bF (i:Nat):∀ a∈roots (O.set i none),a∈roots O:=fun a h=>by
 rw [aK] at h ⊢
 rcases Og h with z | z
 · exact z
 · cases z
theorem fJ:∀ (O:List (Option Addr)) (i:Nat),(roots O).Nodup→(roots (O.set i none)).Nodup
 | [],i,h=>by simpa using h
 | o :: O,0,h=>by
   cases o with
   | none=>simpa [roots] using h
   | some a=>simp only [roots,Mw,mx,id] at h ⊢; exact (jI.mp h).2
 | o :: O,i+1,h=>by
   have key:=fJ O i
   cases o with
   | none=>simp only [roots,DV,mx,id] at h ⊢; exact key h
   | some a =>
     simp only [roots,DV,mx,id] at h ⊢
     rw [jI] at h ⊢
     exact ⟨fun z=>h.1 (bF i a z),key h.2⟩
theorem bV (i:Nat):∀ a∈av Z (O.set i none),a∈av Z O:=fun a h=>by
 rcases cA.mp h with h | h
 · exact cq _ (bF i a h)
 · exact bO _ h
theorem get_set {α:Type} {l:List α} {i j:Nat} {x y:α} (h:(l.set i x)[j]?=some y):(j=i∧y=x∧i < l.length)∨(j≠i∧l[j]?=some y):=by
 rw [Tg] at h
 by_cases e:i=j
 · rw [if_pos e] at h
   by_cases hl:i < l.length
   · rw [if_pos hl] at h
     exact .inl ⟨e.symm,(Option.some.inj h).symm,hl⟩
   · rw [if_neg hl] at h; cases h
 · rw [if_neg e] at h
   exact .inr ⟨fun z=>e z.symm,h⟩
theorem ax.put (I:ax K Z tm O ρ σ H) {i:Nat} {t:T} {v:V} (hp:∀ p∈Z.P,p.1≠i) (hv:At K H (av Z O) t v):ax K Z tm (O.set i none) (ρ.set i (some (t,false))) (σ.set i (some v)) H:=by
 have fw:∀ {t:T} {v:V},At K H (av Z O) t v→At K H (av Z (O.set i none)) t v:=fun q=>q.aX (bV i)
 refine ⟨by simp [I.lσ],by simp [I.lO],fun j e h=>?_,fJ _ _ I.nd,fun a h=>I.own a (bF i a h),fun p q=>?_,I.ox,I.keep,fun p q=>fw (I.m6 p q)⟩
 · rcases get_set h with ⟨rfl,rfl,hl⟩ | ⟨ne,h⟩
   · exact ⟨none,some v,by rw [Am (by rw [I.lO]; exact hl)],by rw [Am (by rw [I.lσ]; exact hl)],rfl,v,rfl,fw hv⟩
   · obtain ⟨o,s,h1,h2,h3⟩:=I.sl j e h
     exact ⟨o,s,by rw [rf (Ne.symm ne)]; exact h1,by rw [rf (Ne.symm ne)]; exact h2,h3.map (fun _ _ q=>fw q) fun _ _ _ q=>q.aX (bV i)⟩
 · rw [rf (Ne.symm (hp p q))]; exact I.par p q
theorem ax.forget (I:ax K Z tm O ρ σ H) {i:Nat} (hp:∀ p∈Z.P,p.1≠i):ax K Z tm (O.set i none) (ρ.set i none) σ H:=by
 have fw:∀ {t:T} {v:V},At K H (av Z O) t v→At K H (av Z (O.set i none)) t v:=fun q=>q.aX (bV i)
 refine ⟨by simp [I.lσ],by simp [I.lO],fun j e h=>?_,fJ _ _ I.nd,fun a h=>I.own a (bF i a h),fun p q=>?_,I.ox,I.keep,fun p q=>fw (I.m6 p q)⟩
 · rcases get_set h with ⟨rfl,rfl,hl⟩ | ⟨ne,h⟩
   · obtain ⟨s,hs⟩:∃ s,σ[j]?=some s:=⟨σ[j]'(by rw [I.lσ]; exact hl),by simp⟩
     exact ⟨none,s,by rw [Am (by rw [I.lO]; exact hl)],hs,rfl⟩
   · obtain ⟨o,s,h1,h2,h3⟩:=I.sl j e h
     exact ⟨o,s,by rw [rf (Ne.symm ne)]; exact h1,h2,h3.map (fun _ _ q=>fw q) fun _ _ _ q=>q.aX (bV i)⟩
 · rw [rf (Ne.symm (hp p q))]; exact I.par p q
theorem mF:∀ (O:List (Option Addr)) (i:Nat) (a:Addr),a∉roots O→(roots O).Nodup→(roots (O.set i (some a))).Nodup
 | [],i,a,_,h=>by simpa using h
 | o :: O,0,a,n,h=>by
   cases o with
   | none=>simp only [roots,Mw,mx,id] at n h ⊢; exact jI.mpr ⟨n,h⟩
   | some b =>
     simp only [roots,Mw,mx,id] at n h ⊢
     exact jI.mpr ⟨fun z=>n (eB _ z),(jI.mp h).2⟩
 | o :: O,i+1,a,n,h=>by
   have key:=mF O i a
   cases o with
   | none=>simp only [roots,DV,mx,id] at n h ⊢; exact key n h
   | some b =>
     simp only [roots,DV,mx,id] at n h ⊢
     rw [jI] at h ⊢
     refine ⟨fun z=>?_,key (fun z=>n (eB _ z)) h.2⟩
     have z':some b∈O.set i (some a):=aK.mp z
     rcases Og z' with q | q
     · exact h.1 (aK.mpr q)
     · exact n (by rw [Option.some.inj q]; exact c6)
theorem vG {a:Addr} (i:Nat):∀ b∈av Z (O.set i (some a)),b∈av (Z.ex a) O:=fun b h=>by
 rcases cA.mp h with h | h
 · rcases Og (aK.mp h) with z | z
   · exact cq _ (aK.mpr z)
   · exact bO _ (by rw [Option.some.inj z]; exact c6)
 · exact bO _ (eB _ h)
theorem ax.ZI {a:Addr} (I:ax K (Z.ex a) tm O ρ σ H) {i:Nat} {t:T} (hp:∀ p∈Z.P,p.1≠i) (hv:cC K H (av (Z.ex a) O) a t) (h0:Z.H0 a=none) (hx:a∉Z.Ox):ax K Z tm (O.set i (some a)) (ρ.set i (some (t,true))) (σ.set i (some (.ref a))) H:=by
 have sub:=vG (Z:=Z) (O:=O) (a:=a) i
 have fw:∀ {t:T} {v:V},At K H (av (Z.ex a) O) t v→At K H (av Z (O.set i (some a))) t v:=fun q=>q.aX sub
 have na:a∉roots O:=fun z=>(I.own a z).2.1 c6
 refine ⟨by simp [I.lσ],by simp [I.lO],fun j e h=>?_,mF _ _ _ na I.nd,fun b h=>?_,fun p q=>?_,fun b h=>I.ox b (eB _ h),I.keep,fun p q=>fw (I.m6 p q)⟩
 · rcases get_set h with ⟨rfl,rfl,hl⟩ | ⟨ne,h⟩
   · exact ⟨some a,some (.ref a),by rw [Am (by rw [I.lO]; exact hl)],by rw [Am (by rw [I.lσ]; exact hl)],a,rfl,rfl,hv.aX sub⟩
   · obtain ⟨o,s,h1,h2,h3⟩:=I.sl j e h
     exact ⟨o,s,by rw [rf (Ne.symm ne)]; exact h1,by rw [rf (Ne.symm ne)]; exact h2,h3.map (fun _ _ q=>fw q) fun _ _ _ q=>q.aX sub⟩
 · rcases Og (aK.mp h) with z | z
   · obtain ⟨h1,h2,h3⟩:=I.own b (aK.mpr z)
     exact ⟨h1,fun q=>h2 (eB _ q),h3⟩
   · cases z
     exact ⟨.inr h0,hx,hv.mut⟩
 · rw [rf (Ne.symm (hp p q))]; exact I.par p q
theorem ax.vh (I:ax K Z tm O ρ σ H) {i:Nat} {t:T} (hp:∀ p∈Z.P,p.1≠i) (hi:ρ[i]?=some (some (t,true))):ax K Z tm (O.set i none) (ρ.set i (some (t,false))) σ H:=by
 have fw:∀ {t:T} {v:V},At K H (av Z O) t v→At K H (av Z (O.set i none)) t v:=fun q=>q.aX (bV i)
 obtain ⟨o,s,h1,h2,a,rfl,rfl,hr⟩:=I.sl i _ hi
 have ha:a∈roots O:=aK.mpr (ik h1)
 have na:a∉roots (O.set i none):=fun z=>by
  obtain ⟨j,hj⟩:=YE.mp (aK.mp z)
  rcases get_set hj with ⟨_,q,_⟩ | ⟨ne,q⟩
  · cases q
  · -- two places of one root
    have key:∀ (O:List (Option Addr)) (i j:Nat),i < j→O[i]?=some (some a)→O[j]?=some (some a)→(roots O).Nodup→False:=by
     intro O
     induction O with
     | nil=>intro i j _ h; simp at h
     | cons o O ih =>
       intro i j hij e1 e2 nd
       cases j with
       | zero=>omega
       | succ j =>
         have IK:O[j]?=some (some a):=by simpa using e2
         cases i with
         | zero =>
           have:o=some a:=by simpa using e1
           subst this
           simp only [roots,mx,id] at nd
           exact (jI.mp nd).1 (aK.mpr (ik IK))
         | succ i =>
           refine ih i j (by omega) (by simpa using e1) IK ?_
           cases o with
           | none=>simpa [roots] using nd
           | some b=>simp only [roots,mx,id] at nd; exact (jI.mp nd).2
    rcases Nat.lt_or_gt_of_ne ne with l | l
    · exact key O j i l q h1 I.nd
    · exact key O i j l h1 q I.nd
 have nav:a∉av Z (O.set i none):=fun z=>by
  rcases cA.mp z with z | z
  · exact na z
  · exact (I.own a ha).2.1 z
 refine ⟨by simp [I.lσ],by simp [I.lO],fun j e h=>?_,fJ _ _ I.nd,fun a h=>I.own a (bF i a h),fun p q=>?_,I.ox,I.keep,fun p q=>fw (I.m6 p q)⟩
 · rcases get_set h with ⟨rfl,rfl,hl⟩ | ⟨ne,h⟩
   · exact ⟨none,some (.ref a),by rw [Am (by rw [I.lO]; exact hl)],h2,rfl,.ref a,rfl,(hr.aX (bV j)).at nav⟩
   · obtain ⟨o,s,h1,h2,h3⟩:=I.sl j e h
     exact ⟨o,s,by rw [rf (Ne.symm ne)]; exact h1,h2,h3.map (fun _ _ q=>fw q) fun _ _ _ q=>q.aX (bV i)⟩
 · rw [rf (Ne.symm (hp p q))]; exact I.par p q
theorem ax.wrote (I:ax K Z tm O ρ σ H) {i:Nat} {t t':T} {a:Addr} {u:HO} (hi:ρ[i]?=some (some (t,true))) (hO:O[i]?=some (some a)) (hr:cC K (upd H a u) (av Z O) a t'):ax K Z tm O (ρ.set i (some (t',true))) σ (upd H a u):=by
 have ha:a∈roots O:=aK.mpr (ik hO)
 have JF:a∈av Z O:=cq _ ha
 obtain ⟨hP,hx,u0,e0,m0⟩:=I.own a ha
 have inj:∀ j b,j≠i→O[j]?=some (some b)→b≠a:=by
  intro j b ne hj e
  subst e
  have key:∀ (O:List (Option Addr)) (i j:Nat),i < j→O[i]?=some (some b)→O[j]?=some (some b)→(roots O).Nodup→False:=by
   intro O
   induction O with
   | nil=>intro i j _ h; simp at h
   | cons o O ih =>
     intro i j hij e1 e2 nd
     cases j with
     | zero=>omega
     | succ j =>
       have IK:O[j]?=some (some b):=by simpa using e2
       cases i with
       | zero =>
         have:o=some b:=by simpa using e1
         subst this
         simp only [roots,mx,id] at nd
         exact (jI.mp nd).1 (aK.mpr (ik IK))
       | succ i =>
         refine ih i j (by omega) (by simpa using e1) IK ?_
         cases o with
         | none=>simpa [roots] using nd
         | some c=>simp only [roots,mx,id] at nd; exact (jI.mp nd).2
  rcases Nat.lt_or_gt_of_ne ne with l | l
  · exact key O j i l hj hO I.nd
  · exact key O i j l hO hj I.nd
 refine ⟨by simp [I.lσ],by simp [I.lO],fun j e h=>?_,I.nd,fun b h=>?_,I.par,fun b h=>?_,fun b o e n=>?_,fun p q=>(I.m6 p q).wrote JF e0 m0⟩
 · rcases get_set h with ⟨rfl,rfl,hl⟩ | ⟨ne,h⟩
   · obtain ⟨o,s,h1,h2,a',h4,h5,h6⟩:=I.sl j _ hi
     rw [hO] at h1
     cases h1
     cases h4
     exact ⟨_,s,hO,h2,a,rfl,h5,hr⟩
   · obtain ⟨o,s,h1,h2,h3⟩:=I.sl j e h
     refine ⟨o,s,h1,h2,h3.map (fun _ _ q=>q.wrote JF e0 m0) fun b t e q=>?_⟩
     subst e
     exact q.map (aA (inj j b ne h1)) fun _ _ z=>z.wrote JF e0 m0
 · obtain ⟨h1,h2,v,e,m⟩:=I.own b h
   by_cases hb:b=a
   · subst hb; exact ⟨h1,h2,hr.mut⟩
   · exact ⟨h1,h2,v,by rw [aA hb]; exact e,m⟩
 · by_cases hb:b=a
   · subst hb; exact absurd h hx
   · rw [aA hb]; exact I.ox b h
 · by_cases hb:b=a
   · subst hb
     rcases hP with q | q
     · exact absurd q n
     · rw [q] at e; cases e
   · rw [aA hb]; exact I.keep b o e n
theorem ax.fresh (I:ax K Z tm O ρ σ H) {a:Addr} (h:H a=none):a∉av Z O∧a∉Z.Ox∧Z.H0 a=none:=by
 refine ⟨fun z=>I.xZ a z h,fun z=>I.ox a z h,?_⟩
 cases e:Z.H0 a with
 | none=>rfl
 | some o =>
   by_cases hp:a∈Z.P.map (·.2)
   · obtain ⟨p,SM,rfl⟩:=vd.mp hp
     obtain ⟨_,_,u,e',_⟩:=I.own p.2 (aK.mpr (ik (I.par p SM)))
     rw [h] at e'; cases e'
   · rw [I.keep a o e hp] at h; cases h
theorem dQ {a:Addr}:∀ b∈av (Z.ex a) O,b∈av Z O∨b=a:=fun b h=>by
 rcases cA.mp h with h | h
 · exact .inl (cq _ h)
 · rcases cY.mp h with h | h
   · exact .inr h
   · exact .inl (bO _ h)
theorem gp {a:Addr}:∀ b∈av Z O,b∈av (Z.ex a) O:=fun b h=>by
 rcases cA.mp h with h | h
 · exact cq _ h
 · exact bO _ (eB _ h)
theorem ax.new (I:ax K Z tm O ρ σ H) {a:Addr} {u:HO} (h:H a=none) (hu:jK u=true):ax K (Z.ex a) tm O ρ σ (upd H a u):=by
 have s:aN H (upd H a u):=aG h
 have J:=I.same s
 obtain ⟨n1,n2,n3⟩:=I.fresh h
 have mr:∀ b∈av (Z.ex a) O,b∈av Z O∨H b=none:=fun b hb=>(dQ b hb).imp id fun e=>by rw [e]; exact h
 have fw:∀ {t:T} {v:V},At K H (av Z O) t v→At K (upd H a u) (av (Z.ex a) O) t v:=fun q=>(q.more mr).same s
 refine ⟨J.lσ,J.lO,fun i e hi=>?_,J.nd,fun b hb=>?_,J.par,fun b hb=>?_,J.keep,fun p hp=>fw (I.m6 p hp)⟩
 · obtain ⟨o,w,h1,h2,h3⟩:=I.sl i e hi
   refine ⟨o,w,h1,h2,h3.map (fun _ _ q=>fw q) fun b t eo q=>?_⟩
   refine cC.same (q.map rfl fun _ _ z=>z.more mr) s
 · obtain ⟨q1,q2,q3⟩:=J.own b hb
   refine ⟨q1,fun z=>?_,q3⟩
   rcases cY.mp z with z | z
   · exact n1 (by rw [← z]; exact cq _ hb)
   · exact q2 z
 · rcases cY.mp hb with z | z
   · rw [z,aI]; simp
   · exact J.ox b z
theorem ax.ZJ {a:Addr} (I:ax K (Z.ex a) tm O ρ σ H):ax K Z tm O ρ σ H :=
 ⟨I.lσ,I.lO,fun i e h=>let ⟨o,w,h1,h2,h3⟩:=I.sl i e h; ⟨o,w,h1,h2,h3.map (fun _ _ q=>q.aX gp) fun _ _ _ q=>q.aX gp⟩,I.nd,
   fun b h=>let ⟨q1,q2,q3⟩:=I.own b h; ⟨q1,fun z=>q2 (eB _ z),q3⟩,I.par,fun b h=>I.ox b (eB _ h),I.keep,fun p hp=>(I.m6 p hp).aX gp⟩
end
inductive Rt where
 | vw (t:T)
 | fr (t:T)
def Rt.t:Rt→T
 | .vw t=>t
 | .fr t=>t
def gq (K:KFr) (H:Hp) (A:List Addr) (t:T) (v:V):Prop:=At K H A t v∨∃ a,v = .ref a∧cC K H A a t
def fD (K:KFr) (Z:Zc) (tm:List (T×V)) (O:List (Option Addr)) (ρ:En) (σ:St) (H:Hp):Rt→V→Prop
 | .vw t,v=>ax K Z tm O ρ σ H∧At K H (av Z O) t v
 | .fr t,v=>∃ a,v = .ref a∧ax K (Z.ex a) tm O ρ σ H∧cC K H (av (Z.ex a) O) a t∧Z.H0 a=none∧a∉Z.Ox
abbrev FE:=En→(T→Prop)→Prop
abbrev FP:=En→(Rt→Prop)→Prop
abbrev FX:=En→(En→Rt→Prop)→Prop
abbrev FB:=En→(Bool→Prop)→Prop
abbrev FA:=En→(List T→Prop)→Prop
section
variable {K:KFr} {Z:Zc} {tm:List (T×V)} {O:List (Option Addr)} {ρ:En} {σ:St} {H H':Hp} {A:List Addr}
theorem gq.same {t:T} {v:V} (s:aN H H') (h:gq K H A t v):gq K H' A t v:=h.imp (fun q=>q.same s) fun ⟨a,e,q⟩=>⟨a,e,q.same s⟩
theorem gq.lst {ts:List T} {v:V} (h:gq K H A (.lst ts) v):∃ a vs,v = .ref a∧fA K H a vs∧az K H A ts vs:=by
 rcases h with h | ⟨a,rfl,vs,e,q⟩
 · simp only [At] at h
   obtain ⟨a,vs,rfl,l,q⟩:=h
   exact ⟨a,vs,rfl,l.sq,q⟩
 · exact ⟨a,vs,rfl,fA.of e,q⟩
theorem gq.tup {ts:List T} {v:V} (h:gq K H A (.tup ts) v):∃ a vs,v = .ref a∧dG K H a vs∧az K H A ts vs:=by
 rcases h with h | ⟨a,rfl,q⟩
 · simpa only [At] using h
 · exact q.elim
theorem gq.dk {ks:List Key} {ts:List T} {v:V} (h:gq K H A (.dk ks ts) v):∃ a vs,v = .ref a∧ks.length=vs.length∧H a=some (.dK (ks.zip vs))∧az K H A ts vs:=by
 rcases h with h | ⟨a,rfl,vs,l,e,q⟩
 · simp only [At] at h
   obtain ⟨a,vs,rfl,l,d,q⟩:=h
   exact ⟨a,vs,rfl,l,d.1,q⟩
 · exact ⟨a,vs,rfl,l,e,q⟩
theorem gq.dt {ks:List (List Key)} {ts:List T} {v:V} (h:gq K H A (.dt ks ts) v):∃ a vs,v = .ref a∧ks.length=vs.length∧H a=some (.dT (ks.zip vs))∧az K H A ts vs:=by
 rcases h with h | ⟨a,rfl,vs,l,e,q⟩
 · simp only [At] at h
   obtain ⟨a,vs,rfl,l,d,q⟩:=h
   exact ⟨a,vs,rfl,l,d.1,q⟩
 · exact ⟨a,vs,rfl,l,e,q⟩
theorem gq.df {o:Obj} {ks:List (List Key)} {ts:List T} {v:V} (h:gq K H A (.df o ks ts) v):∃ a vs,v = .ref a∧ks.length=vs.length∧H a=some (.vh o (.dT (ks.zip vs)))∧az K H A ts vs:=by
 rcases h with h | ⟨a,rfl,q⟩
 · simp only [At] at h
   obtain ⟨a,vs,rfl,l,d,q⟩:=h
   exact ⟨a,vs,rfl,l,d.1,q⟩
 · exact q.elim
theorem gq.dz {o:Obj} {ks:List Key} {ts:List T} {v:V} (h:gq K H A (.dz o ks ts) v):∃ a vs,v = .ref a∧ks.length=vs.length∧H a=some (.vh o (.dK (ks.zip vs)))∧az K H A ts vs:=by
 rcases h with h | ⟨a,rfl,q⟩
 · simp only [At] at h
   obtain ⟨a,vs,rfl,l,d,q⟩:=h
   exact ⟨a,vs,rfl,l,d.1,q⟩
 · exact q.elim
theorem gq.kt {k:List Key} {v:V} (h:gq K H A (.kt k) v):∃ a,v = .ref a∧H a=some (.tup (k.map kV)):=by
 rcases h with h | ⟨a,rfl,q⟩
 · simp only [At] at h
   obtain ⟨a,rfl,d⟩:=h
   exact ⟨a,rfl,d.1⟩
 · exact q.elim
theorem gq.ins {C:Addr} {ns:List Str} {ts:List T} {v:V} (h:gq K H A (.ins C ns ts) v):∃ a dx vs,v = .ref a∧ns.length=vs.length∧H a=some (.ins C dx (ns.zip vs))∧az K H A ts vs:=by
 rcases h with h | ⟨a,rfl,dx,vs,l,e,q⟩
 · simp only [At] at h
   obtain ⟨a,dx,vs,rfl,l,d,q⟩:=h
   exact ⟨a,dx,vs,rfl,l,d.1,q⟩
 · exact ⟨a,dx,vs,rfl,l,e,q⟩
theorem gq.int {i:Int} {v:V} (h:gq K H A (.int i) v):v = .int i:=h.elim (fun q=>by simpa only [At] using q) fun ⟨_,_,q⟩=>q.elim
theorem gq.str {i:Str} {v:V} (h:gq K H A (.str i) v):v = .str i:=h.elim (fun q=>by simpa only [At] using q) fun ⟨_,_,q⟩=>q.elim
theorem gq.bl {i:Bool} {v:V} (h:gq K H A (.bl i) v):v = .bl i:=h.elim (fun q=>by simpa only [At] using q) fun ⟨_,_,q⟩=>q.elim
theorem gq.aT {v:V} (h:gq K H A .aT v):v = .aT:=h.elim (fun q=>by simpa only [At] using q) fun ⟨_,_,q⟩=>q.elim
theorem gq.ob {a:Addr} {v:V} (h:gq K H A (.ob a) v):v = .ref a:=h.elim (fun q=>by simpa only [At] using q) fun ⟨_,_,q⟩=>q.elim
theorem bb {i:Int}:At K H A (.int i) (.int i):=by simp only [At]
theorem cP {i:Str}:At K H A (.str i) (.str i):=by simp only [At]
theorem dJ {i:Bool}:At K H A (.bl i) (.bl i):=by simp only [At]
theorem yz:At K H A .aT .aT:=by simp only [At]
theorem bX {ts:List T} {a:Addr} {vs:List V} (h:dG K H a vs) (q:az K H A ts vs):At K H A (.tup ts) (.ref a):=by simp only [At]; exact ⟨a,vs,rfl,h,q⟩
theorem fD.env {r:Rt} {v:V} (h:fD K Z tm O ρ σ H r v):ax K Z tm O ρ σ H:=by
 cases r with
 | vw t=>exact h.1
 | fr t=>obtain ⟨a,_,I,_⟩:=h; exact I.ZJ
theorem fD.at {r:Rt} {v:V} (h:fD K Z tm O ρ σ H r v):At K H (av Z O) r.t v:=by
 cases r with
 | vw t=>exact h.2
 | fr t =>
   obtain ⟨a,rfl,I,q,_,hx⟩:=h
   refine (q.aX gp).at fun z=>?_
   rcases cA.mp z with z | z
   · exact (I.own a z).2.1 c6
   · exact hx z
theorem ax.B3 (I:ax K Z tm O ρ σ H) {a:Addr} {ts:List T} {vs:List V} (h:H a=none) (q:az K H (av Z O) ts vs):fD K Z tm O ρ σ (upd H a (.lst vs)) (.fr (.lst ts)) (.ref a):=by
 obtain ⟨n1,n2,n3⟩:=I.fresh h
 exact ⟨a,rfl,I.new h rfl,⟨vs,aI,(q.more fun b hb=>(dQ b hb).imp id fun e=>by rw [e]; exact h).same (aG h)⟩,n3,n2⟩
theorem ax.newD (I:ax K Z tm O ρ σ H) {a:Addr} {ks:List Key} {ts:List T} {vs:List V} (h:H a=none) (hl:ks.length=vs.length) (q:az K H (av Z O) ts vs):fD K Z tm O ρ σ (upd H a (.dK (ks.zip vs))) (.fr (.dk ks ts)) (.ref a):=by
 obtain ⟨n1,n2,n3⟩:=I.fresh h
 exact ⟨a,rfl,I.new h rfl,⟨vs,hl,aI,(q.more fun b hb=>(dQ b hb).imp id fun e=>by rw [e]; exact h).same (aG h)⟩,n3,n2⟩
end
structure Bx (p:List (T×V)→Prop):Prop where
 h:∀ tm,p tm
section
variable (X:Cx) (Z:Zc)
def lR (tm:List (T×V)) (f:FE):TE:=fun σ H Q=>∃ ρ O q,ax X.K Z tm O ρ σ H∧f ρ q∧∀ t,q t→∀ v H',aN H H'→gq X.K H' (av Z O) t v→Q v H'
def lE (tm:List (T×V)) (f:FE):TE:=fun σ H Q=>∃ ρ O q,ax X.K Z tm O ρ σ H∧f ρ q∧∀ t,q t→∀ v H',aN H H'→At X.K H' (av Z O) t v→Q v H'
def lP (tm:List (T×V)) (f:FP):TE:=fun σ H Q=>∃ ρ O q,ax X.K Z tm O ρ σ H∧f ρ q∧∀ r,q r→∀ v H',aN H H'→fD X.K Z tm O ρ σ H' r v→Q v H'
def lX (tm:List (T×V)) (f:FX):TE:=fun σ H Q=>∃ ρ O q,ax X.K Z tm O ρ σ H∧f ρ q∧∀ ρ' r,q ρ' r→∀ O' v H',fD X.K Z tm O' ρ' σ H' r v→Q v H'
def lB (tm:List (T×V)) (f:FB):TT:=fun σ H Q=>∃ ρ O q,ax X.K Z tm O ρ σ H∧f ρ q∧∀ b,q b→∀ H',aN H H'→Q b H'
def lA (tm:List (T×V)) (f:FA):TA:=fun σ H Q=>∃ ρ O q,ax X.K Z tm O ρ σ H∧f ρ q∧∀ ts,q ts→∀ vs H',aN H H'→az X.K H' (av Z O) ts vs→Q vs H'
def lAR (tm:List (T×V)) (f:FA):TA:=fun σ H Q=>∃ ρ O q,ax X.K Z tm O ρ σ H∧f ρ q∧∀ ts,q ts→∀ vs H',aN H H'→Paired (fun v t=>gq X.K H' (av Z O) t v) vs ts→Q vs H'
def VR (e:Expr) (f:FE):Prop:=Bx fun tm=>PE X e (lR X Z tm f)
instance {e:Expr} {f:FE}:CoeFun (VR X Z e f) fun _=>∀ tm,PE X e (lR X Z tm f):=⟨fun h=>Bx.h h⟩
def VE (e:Expr) (f:FE):Prop:=Bx fun tm=>PE X e (lE X Z tm f)
instance {e:Expr} {f:FE}:CoeFun (VE X Z e f) fun _=>∀ tm,PE X e (lE X Z tm f):=⟨fun h=>Bx.h h⟩
def VP (e:Expr) (f:FP):Prop:=Bx fun tm=>PE X e (lP X Z tm f)
instance {e:Expr} {f:FP}:CoeFun (VP X Z e f) fun _=>∀ tm,PE X e (lP X Z tm f):=⟨fun h=>Bx.h h⟩
def VX (e:Expr) (f:FX):Prop:=Bx fun tm=>PE X e (lX X Z tm f)
instance {e:Expr} {f:FX}:CoeFun (VX X Z e f) fun _=>∀ tm,PE X e (lX X Z tm f):=⟨fun h=>Bx.h h⟩
def VC (e:Expr) (f:FB):Prop:=Bx fun tm=>PT X e (lB X Z tm f)
instance {e:Expr} {f:FB}:CoeFun (VC X Z e f) fun _=>∀ tm,PT X e (lB X Z tm f):=⟨fun h=>Bx.h h⟩
def VW (e:Expr) (f:FB):Prop:=Bx fun tm=>PW X e (lB X Z tm f)
instance {e:Expr} {f:FB}:CoeFun (VW X Z e f) fun _=>∀ tm,PW X e (lB X Z tm f):=⟨fun h=>Bx.h h⟩
def VA (es:List Expr) (f:FA):Prop:=Bx fun tm=>PA X es (lA X Z tm f)
instance {es:List Expr} {f:FA}:CoeFun (VA X Z es f) fun _=>∀ tm,PA X es (lA X Z tm f):=⟨fun h=>Bx.h h⟩
def MY (es:List Expr) (f:FA):Prop:=Bx fun tm=>PA X es (lAR X Z tm f)
instance {es:List Expr} {f:FA}:CoeFun (MY X Z es f) fun _=>∀ tm,PA X es (lAR X Z tm f):=⟨fun h=>Bx.h h⟩
end
theorem PE.weak {X:Cx} {e:Expr} {t t':TE} (h:PE X e t) (hw:∀ σ H Q,t' σ H Q→t σ H Q):PE X e t':=fun pins s σ H Q I q=>h pins s σ H Q I (hw _ _ _ q)
theorem PT.weak {X:Cx} {e:Expr} {t t':TT} (h:PT X e t) (hw:∀ σ H Q,t' σ H Q→t σ H Q):PT X e t':=fun pins s σ H Q I q=>h pins s σ H Q I (hw _ _ _ q)
theorem PW.weak {X:Cx} {e:Expr} {t t':TT} (h:PW X e t) (hw:∀ σ H Q,t' σ H Q→t σ H Q):PW X e t':=fun wh pins s σ H Q I q=>h wh pins s σ H Q I (hw _ _ _ q)
theorem PA.weak {X:Cx} {e:List Expr} {t t':TA} (h:PA X e t) (hw:∀ σ H Q,t' σ H Q→t σ H Q):PA X e t':=fun pos pins s σ H Q I q=>h pos pins s σ H Q I (hw _ _ _ q)
theorem PS.weak {X:Cx} {b:Stmt} {t t':TS} (h:PS X b t) (hw:∀ D σ H,t' D σ H→t D σ H):PS X b t':=fun pins s σ H D I q=>h pins s σ H D I (hw D σ H q)
theorem gG.h_ {X:Cx} {b:List Stmt} {t t':TS} (h:gG X b t) (hw:∀ D σ H,t' D σ H→t D σ H):gG X b t':=fun pins s σ H D I q=>h pins s σ H D I (hw D σ H q)
section
variable {X:Cx} {Z:Zc} {e a b:Expr} {es:List Expr} {pos:Pos}
theorem VE.vr {f:FE} (h:VE X Z e f):VR X Z e f:=.mk fun tm=>PE.weak (h tm) fun σ H Q ⟨ρ,O,q,I,hf,k⟩=>⟨ρ,O,q,I,hf,fun t ht v H' s z=>k t ht v H' s (.inl z)⟩
def fT (f:FP):FE:=fun ρ Q=>f ρ fun r=>Q r.t
def fV (f:FE):FP:=fun ρ Q=>f ρ fun t=>Q (.vw t)
def fX (f:FP):FX:=fun ρ Q=>f ρ fun r=>Q ρ r
theorem VP.ve {f:FP} (h:VP X Z e f):VE X Z e (fT f):=.mk fun tm=>PE.weak (h tm) fun σ H Q ⟨ρ,O,q,I,hf,k⟩=>⟨ρ,O,fun r=>q r.t,I,hf,fun r hr v H' s z=>k r.t hr v H' s z.at⟩
theorem VP.vr {f:FP} (h:VP X Z e f):VR X Z e (fT f):=h.ve.vr
theorem VP.vx {f:FP} (h:VP X Z e f):VX X Z e (fX f):=.mk fun tm=>PE.weak (h tm) fun σ H Q ⟨ρ,O,q,I,hf,k⟩=>⟨ρ,O,fun r=>q ρ r,I,hf,fun r hr v H' s z=>k ρ r hr O v H' z⟩
theorem VE.vp {f:FE} (h:VE X Z e f):VP X Z e (fV f):=.mk fun tm=>PE.weak (h tm) fun σ H Q ⟨ρ,O,q,I,hf,k⟩=>⟨ρ,O,fun t=>q (.vw t),I,hf,fun t hr v H' s z=>k (.vw t) hr v H' s ⟨I.same s,z⟩⟩
def vH (i:Nat):FE:=fun ρ Q=>match ρ[i]? with
 | some (some (t,false))=>Q t
 | _=>False
def EF (i:Nat):FE:=fun ρ Q=>match ρ[i]? with
 | some (some (t,_))=>Q t
 | _=>False
theorem aq (i:Nat) {x:Str} (hN:X.N[i]?=some x:=by rfl) (hv:j5 X.env.scope x:=by first | exact Or.inl rfl | exact Or.inr (Or.inl rfl) | exact Or.inr (Or.inr rfl)) (hd:ic x:=by decide)
  (gn:va x:=by decide):VE X Z (.Name x pos) (vH i):=.mk fun tm=>PE.weak (bT hN hv hd gn) fun σ H Q ⟨ρ,O,q,I,hf,k⟩=>by
 unfold vH at hf
 split at hf
 · rename_i t e
   obtain ⟨o,s,h1,h2,rfl,v,rfl,h3⟩:=I.sl i _ e
   exact ⟨v,h2,k t hf v H (aN.refl H) h3⟩
 · exact hf.elim
theorem aa (i:Nat) {x:Str} (hN:X.N[i]?=some x:=by rfl) (hv:j5 X.env.scope x:=by first | exact Or.inl rfl | exact Or.inr (Or.inl rfl) | exact Or.inr (Or.inr rfl)) (hd:ic x:=by decide)
  (gn:va x:=by decide):VR X Z (.Name x pos) (EF i):=.mk fun tm=>PE.weak (bT hN hv hd gn) fun σ H Q ⟨ρ,O,q,I,hf,k⟩=>by
 unfold EF at hf
 split at hf
 · rename_i t b e
   obtain ⟨o,s,h1,h2,h3⟩:=I.sl i _ e
   cases b with
   | false=>obtain ⟨rfl,v,rfl,h3⟩:=h3; exact ⟨v,h2,k t hf v H (aN.refl H) (.inl h3)⟩
   | true=>obtain ⟨a,rfl,rfl,h3⟩:=h3; exact ⟨_,h2,k t hf _ H (aN.refl H) (.inr ⟨a,rfl,h3⟩)⟩
 · exact hf.elim
def fC (t:T):FP:=fun _ Q=>Q (.vw t)
theorem EG {t:T} {v:V} (h:PE X e (tC v)) (ht:∀ H A,At X.K H A t v):VP X Z e (fC t):=.mk fun tm=>PE.weak h fun σ H Q ⟨ρ,O,q,I,hf,k⟩=>k _ hf v H (aN.refl H) ⟨I,ht _ _⟩
theorem af {i j pos}:VP X Z (.Constant (.int i) j pos) (fC (.int i)):=EG yb fun _ _=>bb
theorem mG {i j pos}:VP X Z (.Constant (.bool i) j pos) (fC (.bl i)):=EG Ts fun _ _=>dJ
theorem aM {i j pos}:VP X Z (.Constant (.str i) j pos) (fC (.str i)):=EG OB fun _ _=>cP
theorem cQ {j pos}:VP X Z (.Constant .none j pos) (fC .aT):=EG yc fun _ _=>yz
theorem gP {x:Str} {t:T} {v:V} {u:Value} (hg:Gl X x) (hm:X.mg x=some u) (r:RelV v u) (ht:∀ H A,At X.K H A t v) (hd:ic x:=by decide):VP X Z (.Name x pos) (fC t):=EG (sG hg hm r hd) ht
def ow (K:KFr) (r:R2) (p:T→T→(Rt→Prop)→Prop):Prop :=
 ∀ (Z:Zc) (tm:List (T×V)) (O:List (Option Addr)) (ρ:En) (σ:St) (H:Hp) (x y:T) (v w:V) (q:Rt→Prop) (Q:VK),ax K Z tm O ρ σ H→gq K H (av Z O) x v→gq K H (av Z O) y w→p x y q →
  (∀ t,q t→∀ u H',aN H H'→fD K Z tm O ρ σ H' t u→Q u H')→r v w H Q
def f2 (fa fb:FE) (p:T→T→(Rt→Prop)→Prop):FP:=fun ρ Q=>fa ρ fun x=>fb ρ fun y=>p x y Q
theorem two {r:R2} {fa fb:FE} {p:T→T→(Rt→Prop)→Prop} (ho:ow X.K r p) {tm:List (T×V)}:∀ σ H Q,lP X Z tm (f2 fa fb p) σ H Q→TM r (lR X Z tm fa) (lR X Z tm fb) σ H Q:=fun σ H Q ⟨ρ,O,q,I,hf,k⟩ =>
 ⟨ρ,O,fun x=>fb ρ fun y=>p x y q,I,hf,fun x hx v H1 s1 a1=>⟨ρ,O,fun y=>p x y q,I.same s1,hx,fun y hy w H2 s2 a2 =>
   ho Z tm O ρ σ H2 x y v w q Q ((I.same s1).same s2) (a1.same s2) a2 hy fun t ht u H' s a=>k t ht u H' ((s1.trans s2).trans s) a⟩⟩
theorem fW {op:Operator} {r:R2} {fa fb:FE} {p:T→T→(Rt→Prop)→Prop} (h:fu X (binaryOp op) r) (ho:ow X.K r p) (ha:VR X Z a fa) (hb:VR X Z b fb):VP X Z (.BinOp a op b pos) (f2 fa fb p) :=
 .mk fun tm=>PE.weak (MN h (ha tm) (hb tm)) (two ho)
theorem yA {op:CmpOp} {r:R2} {fa fb:FE} {p:T→T→(Rt→Prop)→Prop} (h:fu X (compareOp op) r) (ho:ow X.K r p) (ha:VR X Z a fa) (hb:VR X Z b fb) (hm:behindInMarks op b=false):VP X Z (.Compare a [op] [b] pos) (f2 fa fb p) :=
 .mk fun tm=>PE.weak (Ji h (ha tm) (hb tm) hm) (two ho)
def m7 (f:FP):FB:=fun ρ Q=>f ρ fun r=>match r with
 | .vw (.bl c)=>Q c
 | _=>False
theorem yB {r:Rt} {Q:Bool→Prop} (h:match r with | .vw (.bl c)=>Q c | _=>False):∃ c,r = .vw (.bl c)∧Q c:=by
 split at h
 · exact ⟨_,rfl,h⟩
 · exact h.elim
theorem ir {op:CmpOp} {r:R2} {fa fb:FE} {p:T→T→(Rt→Prop)→Prop} (h:fu X (compareOp op) r) (ho:ow X.K r p) (ha:VR X Z a fa) (hb:VR X Z b fb) (hm:behindInMarks op b=false):VC X Z (.Compare a [op] [b] pos) (m7 (f2 fa fb p)) :=
 .mk fun tm=>PT.weak (Jj h (ha tm) (hb tm) hm) fun σ H Q ⟨ρ,O,q,I,hf,k⟩=>two ho σ H _ ⟨ρ,O,_,I,hf,fun t ht u H' s a=>by
  obtain ⟨c,rfl,hc⟩:=yB ht
  have e:=a.2
  simp only [At] at e
  exact ⟨c,e,k c hc H' s⟩⟩
theorem dw {f:FP} (h:VP X Z e f) (he:∀ whole,isTrue e X.env whole=(do let v ← whole; standAt e.pos; holding [v] (truthy v)):=by intro _; rfl):VC X Z e (m7 f) :=
 .mk fun tm=>PT.weak (OC (h tm) he) fun σ H Q ⟨ρ,O,q,I,hf,k⟩=>⟨ρ,O,_,I,hf,fun t ht u H' s a=>by
  obtain ⟨c,rfl,hc⟩:=yB ht
  have e:=a.2
  simp only [At] at e
  exact ⟨c,e,k c hc H' s⟩⟩
def ZL (f g:FB):FB:=fun ρ Q=>f ρ fun c=>if c=true then g ρ Q else Q false
def fOr (f g:FB):FB:=fun ρ Q=>f ρ fun c=>if c=true then Q true else g ρ Q
def Uy (f:FB):FB:=fun ρ Q=>f ρ fun c=>Q (!c)
theorem VW.vc {f:FB} (h:VW X Z e f):VC X Z e f:=.mk fun tm=>PW.pt (h tm)
theorem nG {f:FB} (h:VC X Z a f):VW X Z (.BoolOp .And [a] pos) f:=.mk fun tm=>pw_and1 (h tm)
theorem lg {f:FB} (h:VC X Z a f):VW X Z (.BoolOp .Or [a] pos) f:=.mk fun tm=>pw_or1 (h tm)
theorem sT {rest:List Expr} {f g:FB} (h:VC X Z a f) (h':VW X Z (.BoolOp .And (b :: rest) pos) g):VW X Z (.BoolOp .And (a :: b :: rest) pos) (ZL f g) :=
 .mk fun tm=>PW.weak (pw_and (h tm) (h' tm)) fun σ H Q ⟨ρ,O,q,I,hf,k⟩=>⟨ρ,O,_,I,hf,fun c hc H1 s1=>by
  cases c with
  | true=>rw [if_pos rfl] at hc ⊢; exact ⟨ρ,O,q,I.same s1,hc,fun b hb H' s=>k b hb H' (s1.trans s)⟩
  | false=>rw [if_neg eC] at hc ⊢; exact k false hc H1 s1⟩
theorem jA {rest:List Expr} {f g:FB} (h:VC X Z a f) (h':VW X Z (.BoolOp .Or (b :: rest) pos) g):VW X Z (.BoolOp .Or (a :: b :: rest) pos) (fOr f g) :=
 .mk fun tm=>PW.weak (pw_or (h tm) (h' tm)) fun σ H Q ⟨ρ,O,q,I,hf,k⟩=>⟨ρ,O,_,I,hf,fun c hc H1 s1=>by
  cases c with
  | true=>rw [if_pos rfl] at hc ⊢; exact k true hc H1 s1
  | false=>rw [if_neg eC] at hc ⊢; exact ⟨ρ,O,q,I.same s1,hc,fun b hb H' s=>k b hb H' (s1.trans s)⟩⟩
theorem eD {f:FB} (h:VC X Z a f):VC X Z (.UnaryOp .Not a pos) (Uy f) :=
 .mk fun tm=>PT.weak (OD (h tm)) fun σ H Q ⟨ρ,O,q,I,hf,k⟩=>⟨ρ,O,_,I,hf,fun c hc H1 s1=>k _ hc H1 s1⟩
def Uz (f g:FP):FP:=fun ρ Q=>f ρ fun r=>match r with
 | .vw (.bl true)=>g ρ Q
 | .vw (.bl false)=>Q (.vw (.bl false))
 | _=>False
def UA (f:FP):FP:=fun ρ Q=>f ρ fun r=>match r with
 | .vw (.bl c)=>Q (.vw (.bl (!c)))
 | _=>False
theorem EH {op} {f:FP} (h:VP X Z a f):VP X Z (.BoolOp op [a] pos) f:=.mk fun tm=>OE (h tm)
theorem yC {rest:List Expr} {f g:FP} (h:VP X Z a f) (h':VP X Z (.BoolOp .And (b :: rest) pos) g):VP X Z (.BoolOp .And (a :: b :: rest) pos) (Uz f g) :=
 .mk fun tm=>PE.weak (OF (h tm) (h' tm)) fun σ H Q ⟨ρ,O,q,I,hf,k⟩=>⟨ρ,O,_,I,hf,fun r hr v H1 s1 z=>by
  split at hr
  · have e:=z.2; simp only [At] at e
    exact ⟨true,e,by rw [if_pos rfl]; exact ⟨ρ,O,q,I.same s1,hr,fun b hb v H' s=>k b hb v H' (s1.trans s)⟩⟩
  · have e:=z.2; simp only [At] at e
    exact ⟨false,e,by rw [if_neg eC]; exact k _ hr _ H1 s1 ⟨I.same s1,dJ⟩⟩
  · exact hr.elim⟩
theorem Pp {f:FP} (h:VP X Z a f):VP X Z (.UnaryOp .Not a pos) (UA f) :=
 .mk fun tm=>PE.weak (OG (h tm)) fun σ H Q ⟨ρ,O,q,I,hf,k⟩=>⟨ρ,O,_,I,hf,fun r hr v H1 s1 z=>by
  split at hr
  · have e:=z.2; simp only [At] at e
    exact ⟨_,e,k _ hr _ H1 s1 ⟨I.same s1,dJ⟩⟩
  · exact hr.elim⟩
def fIf (c:FB) (f g:FP):FP:=fun ρ Q=>c ρ fun b=>if b=true then f ρ Q else g ρ Q
theorem kb {c:Expr} {fc:FB} {f g:FP} (hc:VC X Z c fc) (h:VP X Z a f) (h':VP X Z b g):VP X Z (.IfExp c a b pos) (fIf fc f g) :=
 .mk fun tm=>PE.weak (Ea (hc tm) (h tm) (h' tm)) fun σ H Q ⟨ρ,O,q,I,hf,k⟩=>⟨ρ,O,_,I,hf,fun c hc H1 s1=>by
  cases c with
  | true=>rw [if_pos rfl] at hc ⊢; exact ⟨ρ,O,q,I.same s1,hc,fun b hb v H' s=>k b hb v H' (s1.trans s)⟩
  | false=>rw [if_neg eC] at hc ⊢; exact ⟨ρ,O,q,I.same s1,hc,fun b hb v H' s=>k b hb v H' (s1.trans s)⟩⟩
def yD:FA:=fun _ Q=>Q []
def jB (f:FE) (g:FA):FA:=fun ρ Q=>f ρ fun t=>g ρ fun ts=>Q (t :: ts)
theorem ak:VA X Z [] yD:=.mk fun tm=>PA.weak cO fun σ H Q ⟨ρ,O,q,I,hf,k⟩=>k _ hf [] H (aN.refl H) az.nil
theorem ae {f:FE} {g:FA} (h:VE X Z e f) (h':VA X Z es g) (hs:starEach (e :: es) X.env=(false,eval e X.env) :: starEach es X.env:=by rfl):VA X Z (e :: es) (jB f g) :=
 .mk fun tm=>PA.weak (bw (h tm) (h' tm) hs) fun σ H Q ⟨ρ,O,q,I,hf,k⟩=>⟨ρ,O,_,I,hf,fun t ht v H1 s1 a1=>⟨ρ,O,_,I.same s1,ht,fun ts eL vs H2 s2 a2=>k _ eL _ H2 (s1.trans s2) (az.cons (a1.same s2) a2)⟩⟩
theorem aQ:MY X Z [] yD:=.mk fun tm=>PA.weak cO fun σ H Q ⟨ρ,O,q,I,hf,k⟩=>k _ hf [] H (aN.refl H) .nil
theorem aE {f:FE} {g:FA} (h:VR X Z e f) (h':MY X Z es g) (hs:starEach (e :: es) X.env=(false,eval e X.env) :: starEach es X.env:=by rfl):MY X Z (e :: es) (jB f g) :=
 .mk fun tm=>PA.weak (bw (h tm) (h' tm) hs) fun σ H Q ⟨ρ,O,q,I,hf,k⟩=>⟨ρ,O,_,I,hf,fun t ht v H1 s1 a1=>⟨ρ,O,_,I.same s1,ht,fun ts eL vs H2 s2 a2=>k _ eL _ H2 (s1.trans s2) (.cons (a1.same s2) a2)⟩⟩
def ZM (g:FA):FP:=fun ρ Q=>g ρ fun ts=>ts.length≤sizeLine∧Q (.vw (.tup ts))
def ZN (g:FA):FP:=fun ρ Q=>g ρ fun ts=>ts.length≤sizeLine∧Q (.fr (.lst ts))
theorem bp {g:FA} {x1} (h:VA X Z es g):VP X Z (.Tuple es x1 pos) (ZM g) :=
 .mk fun tm=>PE.weak (yo (h tm)) fun σ H Q ⟨ρ,O,q,I,hf,k⟩=>⟨ρ,O,_,I,hf,fun ts eL vs H1 s1 a1=>⟨by rw [a1.length]; exact eL.1,fun p hp=>k _ eL.2 _ _ (s1.trans (aG hp)) ⟨(I.same s1).same (aG hp),bX (dG.of aI) (a1.same (aG hp))⟩⟩⟩
theorem cz {g:FA} (h:VA X Z es g):VP X Z (.List es pos) (ZN g) :=
 .mk fun tm=>PE.weak (yp (h tm)) fun σ H Q ⟨ρ,O,q,I,hf,k⟩=>⟨ρ,O,_,I,hf,fun ts eL vs H1 s1 a1=>⟨by rw [a1.length]; exact eL.1,fun p hp=>k _ eL.2 _ _ (s1.trans (aG hp)) ((I.same s1).B3 hp a1)⟩⟩
end
mutual
def eqT:T→T→Bool
 | .aT,.aT=>true
 | .bl a,.bl b=>a == b
 | .bl a,.int b=>(if a then 1 else 0) == b
 | .int a,.bl b=>a == (if b then 1 else 0)
 | .int a,.int b=>a == b
 | .str a,.str b=>a == b
 | .tup a,.tup b=>fE a b
 | .lst a,.lst b=>fE a b
 | _,_=>false
def fE:List T→List T→Bool
 | [],[]=>true
 | a :: as,b :: bs=>eqT a b && fE as bs
 | _,_=>false
end
mutual
def plainT:T→Bool
 | .tup l=>bQ l
 | .lst l=>bQ l
 | .dk _ _=>false
 | .dt _ _=>false
 | .df _ _ _=>false
 | .dz _ _ _=>false
 | .kt _=>false
 | .ins _ _ _=>false
 | .pin _ _=>false
 | .ob _=>false
 | .ty _=>false
 | _=>true
def bQ:List T→Bool
 | []=>true
 | t :: ts=>plainT t && bQ ts
end
mutual
def dep:T→Nat
 | .tup l=>fY l+1
 | .lst l=>fY l+1
 | _=>0
def fY:List T→Nat
 | []=>0
 | t :: ts=>max (dep t) (fY ts)
end
mutual
theorem gu:∀ (t:T),plainT t=true→eqT t t=true
 | .aT,_=>by simp [eqT]
 | .bl _,_=>by simp [eqT]
 | .int _,_=>by simp [eqT]
 | .str _,_=>by simp [eqT]
 | .tup l,h=>by simp only [plainT] at h; simp only [eqT]; exact lh l h
 | .lst l,h=>by simp only [plainT] at h; simp only [eqT]; exact lh l h
 | .dk _ _,h=>by simp only [plainT] at h; cases h
 | .dt _ _,h=>by simp only [plainT] at h; cases h
 | .df _ _ _,h=>by simp only [plainT] at h; cases h
 | .dz _ _ _,h=>by simp only [plainT] at h; cases h
 | .kt _,h=>by simp only [plainT] at h; cases h
 | .ins _ _ _,h=>by simp only [plainT] at h; cases h
 | .pin _ _,h=>by simp only [plainT] at h; cases h
 | .ob _,h=>by simp only [plainT] at h; cases h
 | .ty _,h=>by simp only [plainT] at h; cases h
theorem lh:∀ (t:List T),bQ t=true→fE t t=true
 | [],_=>by simp [fE]
 | t :: ts,h=>by
   simp only [bQ,my] at h
   simp only [fE,my]
   exact ⟨gu t h.1,lh ts h.2⟩
end
theorem iu:∀ {a b:List T},fE a b=true→a.length=b.length
 | [],[],_=>rfl
 | a :: as,b :: bs,h=>by simp only [fE,my] at h; simp [iu h.2]
 | [],_ :: _,h=>by simp [fE] at h
 | _ :: _,[],h=>by simp [fE] at h
theorem iw:∀ {a b:List T},a.length=b.length→fE a b=(List.range a.length).all fun j=>match a[j]?,b[j]? with
  | some x,some y=>eqT x y
  | _,_=>true
 | [],[],_=>by simp [fE]
 | a :: as,b :: bs,h=>by
   have ih:=iw (a:=as) (b:=bs) (by simpa using h)
   simp only [fE]
   rw [ih,vb,List.range_succ_eq_map,List.all_cons,List.all_map]
   rfl
 | [],_ :: _,h=>by simp at h
 | _ :: _,[],h=>by simp at h
theorem oy:∀ {a b:List T},fE a b=((List.range (min a.length b.length)).all (fun j=>match a[j]?,b[j]? with
  | some x,some y=>eqT x y
  | _,_=>true) && a.length == b.length)
 | a,b=>by
   by_cases h:a.length=b.length
   · rw [iw h,h,MH]; simp
   · have e:(a.length == b.length)=false:=by simpa using h
     rw [e,Bool.and_false]
     cases q:fE a b with
     | false=>rfl
     | true=>exact absurd (iu q) h
section
variable {X:Cx} {pins:List (Addr×Obj)} {σ:St} {H:Hp} {s:Shared} {O O':List Addr}
theorem vI (I:Inv X pins σ H s) {a:Addr} {xs ys:List V} (h:fA X.K H a xs) (h':dG X.K H a ys):False:=by
 obtain ⟨aP,_,p,_⟩:=I.list h
 obtain ⟨fZ,_,p2,_⟩:=I.tuple h'
 obtain ⟨o,n,e,c,_⟩:=p
 obtain ⟨o2,e2,c2,_⟩:=p2
 rw [e] at e2
 cases e2
 rw [c] at c2
 injection c2 with c2
 exact absurd c2 (by decide)
mutual
theorem At.inj (I:Inv X pins σ H s):∀ {t u:T} {v:V},plainT t=true→plainT u=true→At X.K H O t v→At X.K H O' u v→t=u
 | .aT,u,v,_,pu,h,h'=>by
   simp only [At] at h; subst h
   cases u <;> simp only [At] at h' <;> first | rfl | (simp only [plainT] at pu; cases pu; done) | (obtain ⟨_,_,e,_⟩:=h'; cases e) | (cases h'; done)
 | .bl b,u,v,_,pu,h,h'=>by
   simp only [At] at h; subst h
   cases u <;> simp only [At] at h' <;> first | (simp only [plainT] at pu; cases pu; done) | (obtain ⟨_,_,e,_⟩:=h'; cases e; done) | (cases h'; rfl) | (cases h'; done)
 | .int b,u,v,_,pu,h,h'=>by
   simp only [At] at h; subst h
   cases u <;> simp only [At] at h' <;> first | (simp only [plainT] at pu; cases pu; done) | (obtain ⟨_,_,e,_⟩:=h'; cases e; done) | (cases h'; rfl) | (cases h'; done)
 | .str b,u,v,_,pu,h,h'=>by
   simp only [At] at h; subst h
   cases u <;> simp only [At] at h' <;> first | (simp only [plainT] at pu; cases pu; done) | (obtain ⟨_,_,e,_⟩:=h'; cases e; done) | (cases h'; rfl) | (cases h'; done)
 | .dk _ _,_,_,p,_,_,_=>by simp only [plainT] at p; cases p
 | .dt _ _,_,_,p,_,_,_=>by simp only [plainT] at p; cases p
 | .df _ _ _,_,_,p,_,_,_=>by simp only [plainT] at p; cases p
 | .dz _ _ _,_,_,p,_,_,_=>by simp only [plainT] at p; cases p
 | .kt _,_,_,p,_,_,_=>by simp only [plainT] at p; cases p
 | .ins _ _ _,_,_,p,_,_,_=>by simp only [plainT] at p; cases p
 | .pin _ _,_,_,p,_,_,_=>by simp only [plainT] at p; cases p
 | .ob _,_,_,p,_,_,_=>by simp only [plainT] at p; cases p
 | .ty _,_,_,p,_,_,_=>by simp only [plainT] at p; cases p
 | .tup ts,u,v,p,pu,h,h'=>by
   simp only [At] at h
   obtain ⟨a,vs,rfl,h1,h2⟩:=h
   cases u with
   | tup us =>
     simp only [At] at h'
     obtain ⟨b,ws,e,g1,g2⟩:=h'
     cases e
     cases I.i6 h1 g1
     simp only [plainT] at p pu
     rw [az.inj I p pu h2 g2]
   | lst us =>
     simp only [At] at h'
     obtain ⟨b,ws,e,g1,g2⟩:=h'
     cases e
     exact (vI I g1.sq h1).elim
   | dk _ _=>simp only [plainT] at pu; cases pu
   | dt _ _=>simp only [plainT] at pu; cases pu
   | df _ _ _=>simp only [plainT] at pu; cases pu
   | dz _ _ _=>simp only [plainT] at pu; cases pu
   | kt _=>simp only [plainT] at pu; cases pu
   | ins _ _ _=>simp only [plainT] at pu; cases pu
   | pin _ _=>simp only [plainT] at pu; cases pu
   | ob _=>simp only [plainT] at pu; cases pu
   | ty _=>simp only [plainT] at pu; cases pu
   | _=>simp only [At] at h'; cases h'
 | .lst ts,u,v,p,pu,h,h'=>by
   simp only [At] at h
   obtain ⟨a,vs,rfl,h1,h2⟩:=h
   cases u with
   | lst us =>
     simp only [At] at h'
     obtain ⟨b,ws,e,g1,g2⟩:=h'
     cases e
     cases I.j7 h1.sq g1.sq
     simp only [plainT] at p pu
     rw [az.inj I p pu h2 g2]
   | tup us =>
     simp only [At] at h'
     obtain ⟨b,ws,e,g1,g2⟩:=h'
     cases e
     exact (vI I h1.sq g1).elim
   | dk _ _=>simp only [plainT] at pu; cases pu
   | dt _ _=>simp only [plainT] at pu; cases pu
   | df _ _ _=>simp only [plainT] at pu; cases pu
   | dz _ _ _=>simp only [plainT] at pu; cases pu
   | kt _=>simp only [plainT] at pu; cases pu
   | ins _ _ _=>simp only [plainT] at pu; cases pu
   | pin _ _=>simp only [plainT] at pu; cases pu
   | ob _=>simp only [plainT] at pu; cases pu
   | ty _=>simp only [plainT] at pu; cases pu
   | _=>simp only [At] at h'; cases h'
theorem az.inj (I:Inv X pins σ H s):∀ {ts us:List T} {vs:List V},bQ ts=true→bQ us=true→az X.K H O ts vs→az X.K H O' us vs→ts=us
 | [],[],_,_,_,_,_=>rfl
 | [],_ :: _,_,_,_,h,h'=>by simp only [az] at h h'; subst h; obtain ⟨_,_,e,_⟩:=h'; cases e
 | _ :: _,[],_,_,_,h,h'=>by simp only [az] at h h'; subst h'; obtain ⟨_,_,e,_⟩:=h; cases e
 | t :: ts,u :: us,_,p,pu,h,h'=>by
   simp only [az] at h h'
   simp only [bQ,my] at p pu
   obtain ⟨v,r,rfl,h1,h2⟩:=h
   obtain ⟨v',r',e,g1,g2⟩:=h'
   cases e
   rw [At.inj I p.1 pu.1 h1 g1,az.inj I p.2 pu.2 h2 g2]
end
theorem gQ:∀ {ts:List T} {j:Nat} {x:T},ts[j]?=some x→dep x≤fY ts
 | [],_,_,h=>by simp at h
 | t :: ts,0,x,h=>by simp at h; subst h; simp only [fY]; omega
 | t :: ts,j+1,x,h=>by have:=gQ (ts:=ts) (j:=j) (x:=x) (by simpa using h); simp only [fY]; omega
theorem bN:∀ {ts:List T} {j:Nat} {x:T},bQ ts=true→ts[j]?=some x→plainT x=true
 | [],_,_,_,h=>by simp at h
 | t :: ts,0,x,p,h=>by simp at h; subst h; simp only [bQ,my] at p; exact p.1
 | t :: ts,j+1,x,p,h=>by simp only [bQ,my] at p; exact bN (ts:=ts) (j:=j) p.2 (by simpa using h)
theorem in1_units (A:Around):A.in1.units=A.units+1:=by
 first | rfl | simp [Around.in1,Around.units]
theorem gw (I:Inv X pins σ H s) {ts us:List T} {vs ws:List V} {aP fZ:List Value} {A:Around} (h1:az X.K H O ts vs) (h2:az X.K H O' us ws) (r1:Vals vs aP) (r2:Vals ws fZ)
  (key:∀ (j:Nat) x y v w u u',ts[j]?=some x→us[j]?=some y→At X.K H O x v→At X.K H O' y w→RelV v u→RelV w u'→SeqAt.EqAt A s u u' (eqT x y)) :
  ∀ (j:Nat) (g1:j < aP.toArray.size) (g2:j < fZ.toArray.size),SeqAt.EqAt A s aP.toArray[j] fZ.toArray[j] (match ts[j]?,us[j]? with
   | some x,some y=>eqT x y
   | _,_=>true):=fun j g1 g2=>by
 have l1:=h1.length
 have l2:=h2.length
 have m1:=r1.length
 have m2:=r2.length
 simp only [gF] at g1 g2
 have e1:ts[j]?=some (ts[j]'(by omega)):=by simp
 have e2:us[j]?=some (us[j]'(by omega)):=by simp
 obtain ⟨v,a1,a2⟩:=h1.get e1
 obtain ⟨w,b1,b2⟩:=h2.get e2
 obtain ⟨u,c1,c2⟩:=r1.get a1
 obtain ⟨u',d1,d2⟩:=r2.get b1
 have f1:aP.toArray[j]=u:=by rw [qe (by omega)] at c1; simpa using c1
 have f2:fZ.toArray[j]=u':=by rw [qe (by omega)] at d1; simpa using d1
 rw [f1,f2,e1,e2]
 exact key j _ _ v w u u' e1 e2 a2 b2 c2 d2
theorem jL {O:List Addr} (I:Inv X pins σ H s) {u:T} {w:V} {b:Value} (pu:plainT u=true) (hw:At X.K H O u w) (r:RelV w b):(u = .aT∧b = .none)∨(∃ c,u = .bl c∧b = .bool c)∨(∃ c t,u = .int c∧b = .int c t)∨(∃ c t,u = .str c∧b = .str c t)∨(∃ l p xs,u = .tup l∧b = .ref p∧s.heap.IsTuple p xs)∨∃ l p xs,u = .lst l∧b = .ref p∧s.heap.IsList p xs:=by
 cases u with
 | tup l=>simp only [At] at hw; obtain ⟨p,ws,rfl,q,_⟩:=hw; cases r; obtain ⟨_,_,p1,_⟩:=I.tuple q; exact .inr (.inr (.inr (.inr (.inl ⟨l,p,_,rfl,rfl,p1⟩))))
 | lst l=>simp only [At] at hw; obtain ⟨p,ws,rfl,q,_⟩:=hw; cases r; obtain ⟨_,_,p1,_⟩:=I.list q.sq; exact .inr (.inr (.inr (.inr (.inr ⟨l,p,_,rfl,rfl,p1.isList⟩))))
 | aT=>simp only [At] at hw; subst hw; cases r; exact .inl ⟨rfl,rfl⟩
 | bl c=>simp only [At] at hw; subst hw; cases r; exact .inr (.inl ⟨c,rfl,rfl⟩)
 | int c=>simp only [At] at hw; subst hw; obtain ⟨t,rfl⟩:=r; exact .inr (.inr (.inl ⟨c,t,rfl,rfl⟩))
 | str c=>simp only [At] at hw; subst hw; obtain ⟨t,rfl⟩:=r; exact .inr (.inr (.inr (.inl ⟨c,t,rfl,rfl⟩)))
 | _=>simp only [plainT] at pu; cases pu
theorem sU (I:Inv X pins σ H s):∀ (n:Nat) (t u:T) (v w:V) (a b:Value) (A:Around),dep t≤n→A.units+n < cLine→plainT t=true→plainT u=true→At X.K H O t v→At X.K H O' u w→RelV v a→RelV w b→SeqAt.EqAt A s a b (eqT t u):=by
 intro n
 induction n with
 | zero =>
   intro t u v w a b A hd hu pt pu ht hw rv rw'
   have c5:A.units < cLine:=by omega
   rcases jL I pt ht rv with ⟨rfl,rfl⟩ | ⟨d,rfl,rfl⟩ | ⟨d,t',rfl,rfl⟩ | ⟨d,t',rfl,rfl⟩ | ⟨l,p,xs,rfl,_⟩ | ⟨l,p,xs,rfl,_⟩
   · rcases jL I pu hw rw' with ⟨rfl,rfl⟩ | ⟨c,rfl,rfl⟩ | ⟨c,t,rfl,rfl⟩ | ⟨c,t,rfl,rfl⟩ | ⟨l,p,xs,rfl,rfl,h⟩ | ⟨l,p,xs,rfl,rfl,h⟩ <;> simp only [eqT]
     · exact SeqAt.EqAt.same _
     · exact SeqAt.EqAt.none_bool c
     · exact SeqAt.EqAt.none_int c t
     · exact SeqAt.EqAt.none_str c t
     · exact SeqAt.EqAt.none_tuple h c5
     · exact SeqAt.EqAt.none_list h c5
   · rcases jL I pu hw rw' with ⟨rfl,rfl⟩ | ⟨c,rfl,rfl⟩ | ⟨c,t,rfl,rfl⟩ | ⟨c,t,rfl,rfl⟩ | ⟨l,p,xs,rfl,rfl,h⟩ | ⟨l,p,xs,rfl,rfl,h⟩ <;> simp only [eqT]
     · exact SeqAt.EqAt.bool_none d
     · exact SeqAt.EqAt.bool_bool d c
     · exact SeqAt.EqAt.bool_int d c t
     · exact SeqAt.EqAt.bool_str d c t
     · exact SeqAt.EqAt.bool_tuple d h c5
     · exact SeqAt.EqAt.bool_list d h c5
   · rcases jL I pu hw rw' with ⟨rfl,rfl⟩ | ⟨c,rfl,rfl⟩ | ⟨c,t,rfl,rfl⟩ | ⟨c,t,rfl,rfl⟩ | ⟨l,p,xs,rfl,rfl,h⟩ | ⟨l,p,xs,rfl,rfl,h⟩ <;> simp only [eqT]
     · exact SeqAt.EqAt.int_none d t'
     · exact SeqAt.EqAt.int_bool d t' c
     · exact SeqAt.EqAt.int_int d t' c t
     · exact SeqAt.EqAt.int_str d t' c t
     · exact SeqAt.EqAt.int_tuple d t' h c5
     · exact SeqAt.EqAt.int_list d t' h c5
   · rcases jL I pu hw rw' with ⟨rfl,rfl⟩ | ⟨c,rfl,rfl⟩ | ⟨c,t,rfl,rfl⟩ | ⟨c,t,rfl,rfl⟩ | ⟨l,p,xs,rfl,rfl,h⟩ | ⟨l,p,xs,rfl,rfl,h⟩ <;> simp only [eqT]
     · exact SeqAt.EqAt.str_none d t'
     · exact SeqAt.EqAt.str_bool d t' c
     · exact SeqAt.EqAt.str_int d t' c t
     · exact SeqAt.EqAt.str_str d t' c t
     · exact SeqAt.EqAt.str_tuple d t' h c5
     · exact SeqAt.EqAt.str_list d t' h c5
   · simp only [dep] at hd; omega
   · simp only [dep] at hd; omega
 | succ n ih =>
   intro t u v w a b A hd hu pt pu ht hw rv rw'
   by_cases h0:dep t≤n
   · exact ih t u v w a b A h0 (by omega) pt pu ht hw rv rw'
   · have c5:A.units < cLine:=by omega
     have qg:A.in1.units+n < cLine:=by rw [in1_units]; omega
     cases t with
     | tup l =>
       simp only [plainT] at pt
       simp only [dep] at hd
       have ZO:=ht
       simp only [At] at ht
       obtain ⟨p,vs,rfl,h1,h2⟩:=ht
       cases rv
       obtain ⟨aP,r1,p1,_⟩:=I.tuple h1
       cases u with
       | tup l' =>
         have ZP:=hw
         simp only [At] at hw
         obtain ⟨p',ws,rfl,g1,g2⟩:=hw
         cases rw'
         simp only [plainT] at pu
         by_cases e:p=p'
         · subst e
           have:=At.inj I (t:=.tup l) (u:=.tup l') (by simp only [plainT]; exact pt) (by simp only [plainT]; exact pu) ZO ZP
           rw [← this,gu _ (by simp only [plainT]; exact pt)]
           exact SeqAt.EqAt.same _
         · obtain ⟨fZ,r2,p2,_⟩:=I.tuple g1
           refine SeqAt.EqAt.of_refs e ?_
           have:=SeqAt.RcAt.tuples (A:=A) p1 p2 c5 (gw I h2 g2 r1 r2 fun j x y v w u u' e1 e2 a1 a2 b1 b2=>ih x y v w u u' A.in1 (k0 (gQ e1) (by omega)) qg (bN pt e1) (bN pu e2) a1 a2 b1 b2)
           simp only [eqT]
           rw [oy]
           have e1:=r1.length
           have e2:=r2.length
           have e3:=h2.length
           have e4:=g2.length
           simp only [gF] at this
           rw [← e1,← e2,e3,e4] at this
           exact this
       | _ =>
         rcases jL I pu hw rw' with ⟨e,rfl⟩ | ⟨c,e,rfl⟩ | ⟨c,t,e,rfl⟩ | ⟨c,t,e,rfl⟩ | ⟨l,p,xs,e,rfl,h⟩ | ⟨l,p,xs,e,rfl,h⟩ <;> cases e <;> simp only [eqT]
         all_goals first | exact SeqAt.EqAt.tuple_none p1 c5 | exact SeqAt.EqAt.tuple_bool _ p1 c5 | exact SeqAt.EqAt.tuple_int _ _ p1 c5 | exact SeqAt.EqAt.tuple_str _ _ p1 c5 | exact SeqAt.EqAt.tuple_list p1 (by assumption) c5
     | lst l =>
       simp only [plainT] at pt
       simp only [dep] at hd
       have ZO:=ht
       simp only [At] at ht
       obtain ⟨p,vs,rfl,h1,h2⟩:=ht
       cases rv
       obtain ⟨aP,r1,p1,_⟩:=I.list h1.sq
       cases u with
       | lst l' =>
         have ZP:=hw
         simp only [At] at hw
         obtain ⟨p',ws,rfl,g1,g2⟩:=hw
         cases rw'
         simp only [plainT] at pu
         by_cases e:p=p'
         · subst e
           have:=At.inj I (t:=.lst l) (u:=.lst l') (by simp only [plainT]; exact pt) (by simp only [plainT]; exact pu) ZO ZP
           rw [← this,gu _ (by simp only [plainT]; exact pt)]
           exact SeqAt.EqAt.same _
         · obtain ⟨fZ,r2,p2,_⟩:=I.list g1.sq
           refine SeqAt.EqAt.of_refs e ?_
           have e1:=r1.length
           have e2:=r2.length
           have e3:=h2.length
           have e4:=g2.length
           by_cases hl:l.length=l'.length
           · have:=SeqAt.RcAt.lists (A:=A) p1.isList p2.isList (by simp only [gF]; omega) c5 (gw I h2 g2 r1 r2 fun j x y v w u u' e1 e2 a1 a2 b1 b2=>ih x y v w u u' A.in1 (k0 (gQ e1) (by omega)) qg (bN pt e1) (bN pu e2) a1 a2 b1 b2)
             simp only [eqT]
             rw [iw hl]
             simp only [gF] at this
             rw [← e1,e3] at this
             exact this
           · simp only [eqT]
             have:fE l l'=false:=by
              cases q:fE l l' with
              | false=>rfl
              | true=>exact absurd (iu q) hl
             rw [this]
             exact SeqAt.RcAt.lists_lengths p1.isList p2.isList (by simp only [gF]; rw [bne_iff_ne]; omega) c5
       | _ =>
         rcases jL I pu hw rw' with ⟨e,rfl⟩ | ⟨c,e,rfl⟩ | ⟨c,t,e,rfl⟩ | ⟨c,t,e,rfl⟩ | ⟨l,p,xs,e,rfl,h⟩ | ⟨l,p,xs,e,rfl,h⟩ <;> cases e <;> simp only [eqT]
         all_goals first | exact SeqAt.EqAt.list_none p1.isList c5 | exact SeqAt.EqAt.list_bool _ p1.isList c5 | exact SeqAt.EqAt.list_int _ _ p1.isList c5 | exact SeqAt.EqAt.list_str _ _ p1.isList c5 | exact SeqAt.EqAt.list_tuple p1.isList (by assumption) c5
     | _=>exact absurd (jw n) h0
end
section
variable {X:Cx} {pins:List (Addr×Obj)} {σ:St} {H:Hp} {s:Shared} {O O':List Addr}
theorem Pq (I:Inv X pins σ H s) (t u:T) (v w:V) (a b:Value) (A:Around) (hd:dep t≤100) (hu:A.units+101 < cLine) (pt:plainT t=true) (pu:plainT u=true) (ht:At X.K H O t v) (hw:At X.K H O' u w) (rv:RelV v a) (rw':RelV w b):SeqAt.RcAt A s a b (eqT t u):=by
 have c5:A.units < cLine:=by omega
 have qg:A.in1.units+100 < cLine:=by rw [in1_units]; omega
 cases t with
 | aT =>
   simp only [At] at ht; subst ht; cases rv
   cases u with
   | aT =>
     simp only [At] at hw; subst hw; cases rw'
     simp only [eqT]
     exact SeqAt.RcAt.none_none
   | bl c =>
     simp only [At] at hw; subst hw; cases rw'
     simp only [eqT]
     exact SeqAt.RcAt.none_bool c
   | int c =>
     simp only [At] at hw; subst hw; obtain ⟨t2,rfl⟩:=rw'
     simp only [eqT]
     exact SeqAt.RcAt.none_int c t2
   | str c =>
     simp only [At] at hw; subst hw; obtain ⟨t2,rfl⟩:=rw'
     simp only [eqT]
     exact SeqAt.RcAt.none_str c t2
   | tup l=>simp only [At] at hw; obtain ⟨p,ws,rfl,q,_⟩:=hw; cases rw'; obtain ⟨_,_,p1,_⟩:=I.tuple q; simp only [eqT]; exact SeqAt.RcAt.none_tuple p1 c5
   | lst l=>simp only [At] at hw; obtain ⟨p,ws,rfl,q,_⟩:=hw; cases rw'; obtain ⟨_,_,p1,_⟩:=I.list q.sq; simp only [eqT]; exact SeqAt.RcAt.none_list p1.isList c5
   | _=>simp only [plainT] at pu; cases pu
 | bl d =>
   simp only [At] at ht; subst ht; cases rv
   cases u with
   | aT =>
     simp only [At] at hw; subst hw; cases rw'
     simp only [eqT]
     exact SeqAt.RcAt.bool_none d
   | bl c =>
     simp only [At] at hw; subst hw; cases rw'
     simp only [eqT]
     exact SeqAt.RcAt.bool_bool d c
   | int c =>
     simp only [At] at hw; subst hw; obtain ⟨t2,rfl⟩:=rw'
     simp only [eqT]
     exact SeqAt.RcAt.bool_int d c t2
   | str c =>
     simp only [At] at hw; subst hw; obtain ⟨t2,rfl⟩:=rw'
     simp only [eqT]
     exact SeqAt.RcAt.bool_str d c t2
   | tup l=>simp only [At] at hw; obtain ⟨p,ws,rfl,q,_⟩:=hw; cases rw'; obtain ⟨_,_,p1,_⟩:=I.tuple q; simp only [eqT]; exact SeqAt.RcAt.bool_tuple d p1 c5
   | lst l=>simp only [At] at hw; obtain ⟨p,ws,rfl,q,_⟩:=hw; cases rw'; obtain ⟨_,_,p1,_⟩:=I.list q.sq; simp only [eqT]; exact SeqAt.RcAt.bool_list d p1.isList c5
   | _=>simp only [plainT] at pu; cases pu
 | int d =>
   simp only [At] at ht; subst ht; obtain ⟨t1,rfl⟩:=rv
   cases u with
   | aT =>
     simp only [At] at hw; subst hw; cases rw'
     simp only [eqT]
     exact SeqAt.RcAt.int_none d t1
   | bl c =>
     simp only [At] at hw; subst hw; cases rw'
     simp only [eqT]
     exact SeqAt.RcAt.int_bool d t1 c
   | int c =>
     simp only [At] at hw; subst hw; obtain ⟨t2,rfl⟩:=rw'
     simp only [eqT]
     exact SeqAt.RcAt.int_int d t1 c t2
   | str c =>
     simp only [At] at hw; subst hw; obtain ⟨t2,rfl⟩:=rw'
     simp only [eqT]
     exact SeqAt.RcAt.int_str d t1 c t2
   | tup l=>simp only [At] at hw; obtain ⟨p,ws,rfl,q,_⟩:=hw; cases rw'; obtain ⟨_,_,p1,_⟩:=I.tuple q; simp only [eqT]; exact SeqAt.RcAt.int_tuple d t1 p1 c5
   | lst l=>simp only [At] at hw; obtain ⟨p,ws,rfl,q,_⟩:=hw; cases rw'; obtain ⟨_,_,p1,_⟩:=I.list q.sq; simp only [eqT]; exact SeqAt.RcAt.int_list d t1 p1.isList c5
   | _=>simp only [plainT] at pu; cases pu
 | str d =>
   simp only [At] at ht; subst ht; obtain ⟨t1,rfl⟩:=rv
   cases u with
   | aT =>
     simp only [At] at hw; subst hw; cases rw'
     simp only [eqT]
     exact SeqAt.RcAt.str_none d t1
   | bl c =>
     simp only [At] at hw; subst hw; cases rw'
     simp only [eqT]
     exact SeqAt.RcAt.str_bool d t1 c
   | int c =>
     simp only [At] at hw; subst hw; obtain ⟨t2,rfl⟩:=rw'
     simp only [eqT]
     exact SeqAt.RcAt.str_int d t1 c t2
   | str c =>
     simp only [At] at hw; subst hw; obtain ⟨t2,rfl⟩:=rw'
     simp only [eqT]
     exact SeqAt.RcAt.str_str d t1 c t2
   | tup l=>simp only [At] at hw; obtain ⟨p,ws,rfl,q,_⟩:=hw; cases rw'; obtain ⟨_,_,p1,_⟩:=I.tuple q; simp only [eqT]; exact SeqAt.RcAt.str_tuple d t1 p1 c5
   | lst l=>simp only [At] at hw; obtain ⟨p,ws,rfl,q,_⟩:=hw; cases rw'; obtain ⟨_,_,p1,_⟩:=I.list q.sq; simp only [eqT]; exact SeqAt.RcAt.str_list d t1 p1.isList c5
   | _=>simp only [plainT] at pu; cases pu
 | tup l =>
   simp only [plainT] at pt
   simp only [dep] at hd
   simp only [At] at ht
   obtain ⟨p,vs,rfl,h1,h2⟩:=ht
   cases rv
   obtain ⟨aP,r1,p1,_⟩:=I.tuple h1
   cases u with
   | aT =>
     simp only [At] at hw; subst hw; cases rw'
     simp only [eqT]
     exact SeqAt.RcAt.tuple_none p1 c5
   | bl c =>
     simp only [At] at hw; subst hw; cases rw'
     simp only [eqT]
     exact SeqAt.RcAt.tuple_bool c p1 c5
   | int c =>
     simp only [At] at hw; subst hw; obtain ⟨t2,rfl⟩:=rw'
     simp only [eqT]
     exact SeqAt.RcAt.tuple_int c t2 p1 c5
   | str c =>
     simp only [At] at hw; subst hw; obtain ⟨t2,rfl⟩:=rw'
     simp only [eqT]
     exact SeqAt.RcAt.tuple_str c t2 p1 c5
   | tup l' =>
     simp only [At] at hw
     obtain ⟨p',ws,rfl,g1,g2⟩:=hw
     cases rw'
     obtain ⟨fZ,r2,p2,_⟩:=I.tuple g1
     simp only [eqT]
     simp only [plainT] at pu
     have e1:=r1.length
     have e2:=r2.length
     have e3:=h2.length
     have e4:=g2.length
     have:=SeqAt.RcAt.tuples (A:=A) p1 p2 c5 (gw I h2 g2 r1 r2 fun j x y v w u u' e1 e2 a1 a2 b1 b2=>sU I 100 x y v w u u' A.in1 (k0 (gQ e1) (by omega)) qg (bN pt e1) (bN pu e2) a1 a2 b1 b2)
     simp only [gF] at this
     rw [← e1,← e2,e3,e4] at this
     rw [oy]
     exact this
   | lst l' =>
     simp only [At] at hw
     obtain ⟨p',ws,rfl,g1,g2⟩:=hw
     cases rw'
     obtain ⟨fZ,r2,p2,_⟩:=I.list g1.sq
     simp only [eqT]
     exact SeqAt.RcAt.tuple_list p1 p2.isList c5
   | _=>simp only [plainT] at pu; cases pu
 | lst l =>
   simp only [plainT] at pt
   simp only [dep] at hd
   simp only [At] at ht
   obtain ⟨p,vs,rfl,h1,h2⟩:=ht
   cases rv
   obtain ⟨aP,r1,p1,_⟩:=I.list h1.sq
   cases u with
   | aT =>
     simp only [At] at hw; subst hw; cases rw'
     simp only [eqT]
     exact SeqAt.RcAt.list_none p1.isList c5
   | bl c =>
     simp only [At] at hw; subst hw; cases rw'
     simp only [eqT]
     exact SeqAt.RcAt.list_bool c p1.isList c5
   | int c =>
     simp only [At] at hw; subst hw; obtain ⟨t2,rfl⟩:=rw'
     simp only [eqT]
     exact SeqAt.RcAt.list_int c t2 p1.isList c5
   | str c =>
     simp only [At] at hw; subst hw; obtain ⟨t2,rfl⟩:=rw'
     simp only [eqT]
     exact SeqAt.RcAt.list_str c t2 p1.isList c5
   | tup l' =>
     simp only [At] at hw
     obtain ⟨p',ws,rfl,g1,g2⟩:=hw
     cases rw'
     obtain ⟨fZ,r2,p2,_⟩:=I.tuple g1
     simp only [eqT]
     exact SeqAt.RcAt.list_tuple p1.isList p2 c5
   | lst l' =>
     simp only [At] at hw
     obtain ⟨p',ws,rfl,g1,g2⟩:=hw
     cases rw'
     obtain ⟨fZ,r2,p2,_⟩:=I.list g1.sq
     simp only [eqT]
     simp only [plainT] at pu
     have e1:=r1.length
     have e2:=r2.length
     have e3:=h2.length
     have e4:=g2.length
     by_cases hl:l.length=l'.length
     · have:=SeqAt.RcAt.lists (A:=A) p1.isList p2.isList (by simp only [gF]; omega) c5 (gw I h2 g2 r1 r2 fun j x y v w u u' e1 e2 a1 a2 b1 b2=>sU I 100 x y v w u u' A.in1 (k0 (gQ e1) (by omega)) qg (bN pt e1) (bN pu e2) a1 a2 b1 b2)
       simp only [gF] at this
       rw [← e1,e3] at this
       rw [iw hl]
       exact this
     · have:fE l l'=false:=by
        cases q:fE l l' with
        | false=>rfl
        | true=>exact absurd (iu q) hl
       rw [this]
       exact SeqAt.RcAt.lists_lengths p1.isList p2.isList (by simp only [gF]; rw [bne_iff_ne]; omega) c5
   | _=>simp only [plainT] at pu; cases pu
 | _=>simp only [plainT] at pt; cases pt
theorem Pr (I:Inv X pins σ H s) (t u:T) (v w:V) (a b:Value) (A:Around) (hd:dep t≤100) (hu:A.units+101 < cLine) (pt:plainT t=true) (pu:plainT u=true) (ht:At X.K H O t v) (hw:At X.K H O' u w) (rv:RelV v a) (rw':RelV w b):SeqAt.RcNeAt A s a b (!eqT t u):=by
 have c5:A.units < cLine:=by omega
 have qg:A.in1.units+100 < cLine:=by rw [in1_units]; omega
 cases t with
 | aT =>
   simp only [At] at ht; subst ht; cases rv
   cases u with
   | aT =>
     simp only [At] at hw; subst hw; cases rw'
     simp only [eqT]
     exact SeqAt.RcNeAt.none_none
   | bl c =>
     simp only [At] at hw; subst hw; cases rw'
     simp only [eqT]
     exact SeqAt.RcNeAt.none_bool c
   | int c =>
     simp only [At] at hw; subst hw; obtain ⟨t2,rfl⟩:=rw'
     simp only [eqT]
     exact SeqAt.RcNeAt.none_int c t2
   | str c =>
     simp only [At] at hw; subst hw; obtain ⟨t2,rfl⟩:=rw'
     simp only [eqT]
     exact SeqAt.RcNeAt.none_str c t2
   | tup l=>simp only [At] at hw; obtain ⟨p,ws,rfl,q,_⟩:=hw; cases rw'; obtain ⟨_,_,p1,_⟩:=I.tuple q; simp only [eqT]; exact SeqAt.RcNeAt.none_tuple p1 c5
   | lst l=>simp only [At] at hw; obtain ⟨p,ws,rfl,q,_⟩:=hw; cases rw'; obtain ⟨_,_,p1,_⟩:=I.list q.sq; simp only [eqT]; exact SeqAt.RcNeAt.none_list p1.isList c5
   | _=>simp only [plainT] at pu; cases pu
 | bl d =>
   simp only [At] at ht; subst ht; cases rv
   cases u with
   | aT =>
     simp only [At] at hw; subst hw; cases rw'
     simp only [eqT]
     exact SeqAt.RcNeAt.bool_none d
   | bl c =>
     simp only [At] at hw; subst hw; cases rw'
     simp only [eqT]
     exact SeqAt.RcNeAt.bool_bool d c
   | int c =>
     simp only [At] at hw; subst hw; obtain ⟨t2,rfl⟩:=rw'
     simp only [eqT]
     exact SeqAt.RcNeAt.bool_int d c t2
   | str c =>
     simp only [At] at hw; subst hw; obtain ⟨t2,rfl⟩:=rw'
     simp only [eqT]
     exact SeqAt.RcNeAt.bool_str d c t2
   | tup l=>simp only [At] at hw; obtain ⟨p,ws,rfl,q,_⟩:=hw; cases rw'; obtain ⟨_,_,p1,_⟩:=I.tuple q; simp only [eqT]; exact SeqAt.RcNeAt.bool_tuple d p1 c5
   | lst l=>simp only [At] at hw; obtain ⟨p,ws,rfl,q,_⟩:=hw; cases rw'; obtain ⟨_,_,p1,_⟩:=I.list q.sq; simp only [eqT]; exact SeqAt.RcNeAt.bool_list d p1.isList c5
   | _=>simp only [plainT] at pu; cases pu
 | int d =>
   simp only [At] at ht; subst ht; obtain ⟨t1,rfl⟩:=rv
   cases u with
   | aT =>
     simp only [At] at hw; subst hw; cases rw'
     simp only [eqT]
     exact SeqAt.RcNeAt.int_none d t1
   | bl c =>
     simp only [At] at hw; subst hw; cases rw'
     simp only [eqT]
     exact SeqAt.RcNeAt.int_bool d t1 c
   | int c =>
     simp only [At] at hw; subst hw; obtain ⟨t2,rfl⟩:=rw'
     simp only [eqT]
     exact SeqAt.RcNeAt.int_int d t1 c t2
   | str c =>
     simp only [At] at hw; subst hw; obtain ⟨t2,rfl⟩:=rw'
     simp only [eqT]
     exact SeqAt.RcNeAt.int_str d t1 c t2
   | tup l=>simp only [At] at hw; obtain ⟨p,ws,rfl,q,_⟩:=hw; cases rw'; obtain ⟨_,_,p1,_⟩:=I.tuple q; simp only [eqT]; exact SeqAt.RcNeAt.int_tuple d t1 p1 c5
   | lst l=>simp only [At] at hw; obtain ⟨p,ws,rfl,q,_⟩:=hw; cases rw'; obtain ⟨_,_,p1,_⟩:=I.list q.sq; simp only [eqT]; exact SeqAt.RcNeAt.int_list d t1 p1.isList c5
   | _=>simp only [plainT] at pu; cases pu
 | str d =>
   simp only [At] at ht; subst ht; obtain ⟨t1,rfl⟩:=rv
   cases u with
   | aT =>
     simp only [At] at hw; subst hw; cases rw'
     simp only [eqT]
     exact SeqAt.RcNeAt.str_none d t1
   | bl c =>
     simp only [At] at hw; subst hw; cases rw'
     simp only [eqT]
     exact SeqAt.RcNeAt.str_bool d t1 c
   | int c =>
     simp only [At] at hw; subst hw; obtain ⟨t2,rfl⟩:=rw'
     simp only [eqT]
     exact SeqAt.RcNeAt.str_int d t1 c t2
   | str c =>
     simp only [At] at hw; subst hw; obtain ⟨t2,rfl⟩:=rw'
     simp only [eqT]
     exact SeqAt.RcNeAt.str_str d t1 c t2
   | tup l=>simp only [At] at hw; obtain ⟨p,ws,rfl,q,_⟩:=hw; cases rw'; obtain ⟨_,_,p1,_⟩:=I.tuple q; simp only [eqT]; exact SeqAt.RcNeAt.str_tuple d t1 p1 c5
   | lst l=>simp only [At] at hw; obtain ⟨p,ws,rfl,q,_⟩:=hw; cases rw'; obtain ⟨_,_,p1,_⟩:=I.list q.sq; simp only [eqT]; exact SeqAt.RcNeAt.str_list d t1 p1.isList c5
   | _=>simp only [plainT] at pu; cases pu
 | tup l =>
   simp only [plainT] at pt
   simp only [dep] at hd
   simp only [At] at ht
   obtain ⟨p,vs,rfl,h1,h2⟩:=ht
   cases rv
   obtain ⟨aP,r1,p1,_⟩:=I.tuple h1
   cases u with
   | aT =>
     simp only [At] at hw; subst hw; cases rw'
     simp only [eqT]
     exact SeqAt.RcNeAt.tuple_none p1 c5
   | bl c =>
     simp only [At] at hw; subst hw; cases rw'
     simp only [eqT]
     exact SeqAt.RcNeAt.tuple_bool c p1 c5
   | int c =>
     simp only [At] at hw; subst hw; obtain ⟨t2,rfl⟩:=rw'
     simp only [eqT]
     exact SeqAt.RcNeAt.tuple_int c t2 p1 c5
   | str c =>
     simp only [At] at hw; subst hw; obtain ⟨t2,rfl⟩:=rw'
     simp only [eqT]
     exact SeqAt.RcNeAt.tuple_str c t2 p1 c5
   | tup l' =>
     simp only [At] at hw
     obtain ⟨p',ws,rfl,g1,g2⟩:=hw
     cases rw'
     obtain ⟨fZ,r2,p2,_⟩:=I.tuple g1
     simp only [eqT]
     simp only [plainT] at pu
     have e1:=r1.length
     have e2:=r2.length
     have e3:=h2.length
     have e4:=g2.length
     have:=SeqAt.RcNeAt.tuples (A:=A) p1 p2 c5 (gw I h2 g2 r1 r2 fun j x y v w u u' e1 e2 a1 a2 b1 b2=>sU I 100 x y v w u u' A.in1 (k0 (gQ e1) (by omega)) qg (bN pt e1) (bN pu e2) a1 a2 b1 b2)
     simp only [gF] at this
     rw [← e1,← e2,e3,e4] at this
     rw [oy]
     exact this
   | lst l' =>
     simp only [At] at hw
     obtain ⟨p',ws,rfl,g1,g2⟩:=hw
     cases rw'
     obtain ⟨fZ,r2,p2,_⟩:=I.list g1.sq
     simp only [eqT]
     exact SeqAt.RcNeAt.tuple_list p1 p2.isList c5
   | _=>simp only [plainT] at pu; cases pu
 | lst l =>
   simp only [plainT] at pt
   simp only [dep] at hd
   simp only [At] at ht
   obtain ⟨p,vs,rfl,h1,h2⟩:=ht
   cases rv
   obtain ⟨aP,r1,p1,_⟩:=I.list h1.sq
   cases u with
   | aT =>
     simp only [At] at hw; subst hw; cases rw'
     simp only [eqT]
     exact SeqAt.RcNeAt.list_none p1.isList c5
   | bl c =>
     simp only [At] at hw; subst hw; cases rw'
     simp only [eqT]
     exact SeqAt.RcNeAt.list_bool c p1.isList c5
   | int c =>
     simp only [At] at hw; subst hw; obtain ⟨t2,rfl⟩:=rw'
     simp only [eqT]
     exact SeqAt.RcNeAt.list_int c t2 p1.isList c5
   | str c =>
     simp only [At] at hw; subst hw; obtain ⟨t2,rfl⟩:=rw'
     simp only [eqT]
     exact SeqAt.RcNeAt.list_str c t2 p1.isList c5
   | tup l' =>
     simp only [At] at hw
     obtain ⟨p',ws,rfl,g1,g2⟩:=hw
     cases rw'
     obtain ⟨fZ,r2,p2,_⟩:=I.tuple g1
     simp only [eqT]
     exact SeqAt.RcNeAt.list_tuple p1.isList p2 c5
   | lst l' =>
     simp only [At] at hw
     obtain ⟨p',ws,rfl,g1,g2⟩:=hw
     cases rw'
     obtain ⟨fZ,r2,p2,_⟩:=I.list g1.sq
     simp only [eqT]
     simp only [plainT] at pu
     have e1:=r1.length
     have e2:=r2.length
     have e3:=h2.length
     have e4:=g2.length
     by_cases hl:l.length=l'.length
     · have:=SeqAt.RcNeAt.lists (A:=A) p1.isList p2.isList (by simp only [gF]; omega) c5 (gw I h2 g2 r1 r2 fun j x y v w u u' e1 e2 a1 a2 b1 b2=>sU I 100 x y v w u u' A.in1 (k0 (gQ e1) (by omega)) qg (bN pt e1) (bN pu e2) a1 a2 b1 b2)
       simp only [gF] at this
       rw [← e1,e3] at this
       rw [iw hl]
       exact this
     · have:fE l l'=false:=by
        cases q:fE l l' with
        | false=>rfl
        | true=>exact absurd (iu q) hl
       rw [this]
       exact SeqAt.RcNeAt.lists_lengths p1.isList p2.isList (by simp only [gF]; rw [bne_iff_ne]; omega) c5
   | _=>simp only [plainT] at pu; cases pu
 | _=>simp only [plainT] at pt; cases pt
theorem gq.bare {K:KFr} {H:Hp} {A:List Addr} {t:T} {v:V} (h:gq K H A t v):At K H [] t v:=by
 rcases h with h | ⟨a,rfl,h⟩
 · exact At.aX (O':=[]) (fun _ z=>absurd z gK) h
 · exact (cC.aX (A':=[]) h (fun _ z=>absurd z gK)).at gK
def JG (K:KFr) (neg:Bool):R2:=fun x y H Q=>∃ t u,At K H [] t x∧At K H [] u y∧plainT t=true∧plainT u=true∧dep t≤100∧Q (.bl (if neg then !eqT t u else eqT t u)) H
theorem EI (hu:X.A.units+101 < cLine):fu X (compareOp .Eq) (JG X.K false):=by
 intro pins s σ H x y v u Q I rx ry ⟨t,t',h1,h2,p1,p2,d,q⟩
 exact Pq I t t' x y v u X.A d hu p1 p2 h1 h2 rx ry X.prog X.w X.xe _ ⟨.bl _,H,I,rfl,q⟩
theorem Pt (hu:X.A.units+101 < cLine):fu X (compareOp .NotEq) (JG X.K true):=by
 intro pins s σ H x y v u Q I rx ry ⟨t,t',h1,h2,p1,p2,d,q⟩
 exact Pr I t t' x y v u X.A d hu p1 p2 h1 h2 rx ry X.prog X.w X.xe _ ⟨.bl _,H,I,rfl,q⟩
end
def MZ (x y:T) (q:Rt→Prop):Prop:=match x,y with
 | .int i,.int j=>q (.vw (.bl (decide (i=j))))
 | .str i,.str j=>q (.vw (.bl (decide (i=j))))
 | .bl i,.bl j=>q (.vw (.bl (decide (i=j))))
 | x,y=>plainT x=true∧plainT y=true∧dep x≤100∧q (.vw (.bl (eqT x y)))
def X5 (x y:T) (q:Rt→Prop):Prop:=match x,y with
 | .int i,.int j=>q (.vw (.bl (!decide (i=j))))
 | .str i,.str j=>q (.vw (.bl (!decide (i=j))))
 | .bl i,.bl j=>q (.vw (.bl (!decide (i=j))))
 | x,y=>plainT x=true∧plainT y=true∧dep x≤100∧q (.vw (.bl (!eqT x y)))
theorem JH {x y:T} {q:Rt→Prop} (h:MZ x y q):plainT x=true∧plainT y=true∧dep x≤100∧q (.vw (.bl (eqT x y))):=by
 unfold MZ at h
 split at h
 · exact ⟨rfl,rfl,jw _,by simp only [eqT,XC]; exact h⟩
 · refine ⟨rfl,rfl,jw _,?_⟩
   have e:∀ i j:Str,(i == j)=decide (i=j):=fun i j=>by rw [Bool.eq_iff_iff]; simp
   simp only [eqT,e]; exact h
 · exact ⟨rfl,rfl,jw _,by simp only [eqT,XC]; exact h⟩
 · exact h
theorem JI {x y:T} {q:Rt→Prop} (h:X5 x y q):plainT x=true∧plainT y=true∧dep x≤100∧q (.vw (.bl (!eqT x y))):=by
 unfold X5 at h
 split at h
 · exact ⟨rfl,rfl,jw _,by simp only [eqT,XC]; exact h⟩
 · refine ⟨rfl,rfl,jw _,?_⟩
   have e:∀ i j:Str,(i == j)=decide (i=j):=fun i j=>by rw [Bool.eq_iff_iff]; simp
   simp only [eqT,e]; exact h
 · exact ⟨rfl,rfl,jw _,by simp only [eqT,XC]; exact h⟩
 · exact h
theorem EJ {K:KFr}:ow K (JG K false) MZ:=by
 intro Z tm O ρ σ H x y v w q Q I h1 h2 h k
 obtain ⟨p1,p2,d,h⟩:=JH h
 exact ⟨x,y,h1.bare,h2.bare,p1,p2,d,k _ h _ H (aN.refl H) ⟨I,by rw [if_neg eC]; exact dJ⟩⟩
theorem Pu {K:KFr}:ow K (JG K true) X5:=by
 intro Z tm O ρ σ H x y v w q Q I h1 h2 h k
 obtain ⟨p1,p2,d,h⟩:=JI h
 exact ⟨x,y,h1.bare,h2.bare,p1,p2,d,k _ h _ H (aN.refl H) ⟨I,by rw [if_pos rfl]; exact dJ⟩⟩
def UB (g:Int→Int→Bool) (x y:T) (q:Rt→Prop):Prop:=match x,y with
 | .int i,.int j=>q (.vw (.bl (g i j)))
 | _,_=>False
section
variable {K:KFr}
end
def Pw (x y:T) (q:Rt→Prop):Prop:=match x,y with
 | .int i,.int j=>q (.vw (.int (i - j)))
 | _,_=>False
theorem JJ {K:KFr}:ow K (vq fun i j=>.int (i - j)) Pw:=by
 intro Z tm O ρ σ H x y v w q Q I h1 h2 h k
 unfold Pw at h
 split at h
 · exact ⟨_,_,h1.int,h2.int,k _ h _ H (aN.refl H) ⟨I,bb⟩⟩
 · exact h.elim
def Px (x y:T) (q:Rt→Prop):Prop:=match x,y with
 | .int i,.int j=>Ef i j∧q (.vw (.int (i * j)))
 | _,_=>False
theorem JK {K:KFr}:ow K (rI Ef fun i j=>.int (i * j)) Px:=by
 intro Z tm O ρ σ H x y v w q Q I h1 h2 h k
 unfold Px at h
 split at h
 · exact ⟨_,_,h1.int,h2.int,h.1,k _ h.2 _ H (aN.refl H) ⟨I,bb⟩⟩
 · exact h.elim
def Py (x y:T) (q:Rt→Prop):Prop:=match x,y with
 | .int i,.int j=>(0 < j∧j < 1073741824)∧q (.vw (.int (i / j)))
 | _,_=>False
theorem JL {K:KFr}:ow K (rI TQ fun i j=>.int (i / j)) Py:=by
 intro Z tm O ρ σ H x y v w q Q I h1 h2 h k
 unfold Py at h
 split at h
 · exact ⟨_,_,h1.int,h2.int,h.1,k _ h.2 _ H (aN.refl H) ⟨I,bb⟩⟩
 · exact h.elim
def Pz (x y:T) (q:Rt→Prop):Prop:=match x,y with
 | .int i,.int j=>0 < j∧q (.vw (.int (i % j)))
 | _,_=>False
theorem JM {K:KFr}:ow K (rI (fun _ j=>0 < j) fun i j=>.int (i % j)) Pz:=by
 intro Z tm O ρ σ H x y v w q Q I h1 h2 h k
 unfold Pz at h
 split at h
 · exact ⟨_,_,h1.int,h2.int,h.1,k _ h.2 _ H (aN.refl H) ⟨I,bb⟩⟩
 · exact h.elim
def PB (x y:T) (q:Rt→Prop):Prop:=match x,y with
 | .int i,.int j=>(0≤j∧j≤1000000∧i.natAbs < 2 ^ 64)∧q (.vw (.int (i ^ j.toNat)))
 | _,_=>False
theorem JN {K:KFr}:ow K (rI TR fun i j=>.int (i ^ j.toNat)) PB:=by
 intro Z tm O ρ σ H x y v w q Q I h1 h2 h k
 unfold PB at h
 split at h
 · exact ⟨_,_,h1.int,h2.int,h.1,k _ h.2 _ H (aN.refl H) ⟨I,bb⟩⟩
 · exact h.elim
def X6 (x y:T) (q:Rt→Prop):Prop:=match x,y with
 | .int i,.int j=>q (.vw (.bl (decide (i < j))))
 | _,_=>False
theorem EK {K:KFr}:ow K (vq fun i j=>.bl (decide (i < j))) X6:=by
 intro Z tm O ρ σ H x y v w q Q I h1 h2 h k
 unfold X6 at h
 split at h
 · exact ⟨_,_,h1.int,h2.int,k _ h _ H (aN.refl H) ⟨I,dJ⟩⟩
 · exact h.elim
def ZQ (x y:T) (q:Rt→Prop):Prop:=match x,y with
 | .int i,.int j=>q (.vw (.bl (decide (j < i))))
 | _,_=>False
theorem PC {K:KFr}:ow K (vq fun i j=>.bl (decide (j < i))) ZQ:=by
 intro Z tm O ρ σ H x y v w q Q I h1 h2 h k
 unfold ZQ at h
 split at h
 · exact ⟨_,_,h1.int,h2.int,k _ h _ H (aN.refl H) ⟨I,dJ⟩⟩
 · exact h.elim
def ZR (x y:T) (q:Rt→Prop):Prop:=match x,y with
 | .int i,.int j=>q (.vw (.bl (decide (j≤i))))
 | _,_=>False
theorem PD {K:KFr}:ow K (vq fun i j=>.bl (decide (j≤i))) ZR:=by
 intro Z tm O ρ σ H x y v w q Q I h1 h2 h k
 unfold ZR at h
 split at h
 · exact ⟨_,_,h1.int,h2.int,k _ h _ H (aN.refl H) ⟨I,dJ⟩⟩
 · exact h.elim
def M6 (K:KFr):R2:=fun x y H Q=>∃ l b xs zs,x = .ref l∧y = .ref b∧fA K H l xs∧fA K H b zs∧xs.length+zs.length≤sizeLine∧∀ p,H p=none→Q (.ref p) (upd H p (.lst (xs ++ zs)))
def M7 (K:KFr):R2:=fun x y H Q=>∃ a b xs ys,x = .ref a∧y = .ref b∧dG K H a xs∧dG K H b ys∧xs.length+ys.length≤sizeLine∧(xs=[]→Q (.ref b) H)∧(xs≠[]→ys=[]→Q (.ref a) H)∧(xs≠[]→ys≠[]→∀ p,H p=none→Q (.ref p) (upd H p (.tup (xs ++ ys))))
section
variable {X:Cx}
theorem JO:fu X (binaryOp .Add) (M6 X.K):=by
 intro pins s σ H x y v u Q I rx ry h
 obtain ⟨l,b,xs,zs,rfl,rfl,hH,hB,hz,q⟩:=h
 cases rx
 cases ry
 obtain ⟨aP,r,p1,z1⟩:=I.list hH
 obtain ⟨fZ,r2,p2,z2⟩:=I.list hB
 obtain ⟨⟨cls,dd,data,sl⟩,n,ho,hc,_,hd⟩:=p1
 obtain ⟨⟨T6,SI,data2,SJ⟩,n2,DK,DN,_,hd2⟩:=p2
 simp only at hc hd DN hd2
 subst hc hd DN hd2
 have l1:=r.length
 have l2:=r2.length
 have e:aP.toArray ++ fZ.toArray=(aP ++ fZ).toArray:=by simp
 refine concat_meets ⟨_,ho,rfl⟩ ⟨_,DK,rfl⟩ noFill_list_add seq_list_add PySem.F.slot_list_add PySem.F.entry_list_add (PySem.F.args_list_add_2 _ _) (list_addW l b aP.toArray fZ.toArray n n2 dd SI sl SJ (by simp only [gF]; omega)) ⟨ho,DK,?_⟩
 rw [e]
 exact ⟨.ref _,_,I.Ud (t':=s.toks) (r.append r2) (by rw [uY]; omega),rfl,q _ I.fresh⟩
theorem JP:fu X (binaryOp .Add) (M7 X.K):=by
 intro pins s σ H x y v u Q I rx ry h
 obtain ⟨a,b,xs,ys,rfl,rfl,ha,hb,hz,q0,q1,q2⟩:=h
 cases rx
 cases ry
 obtain ⟨aP,r1,p1,_⟩:=I.tuple ha
 obtain ⟨fZ,r2,p2,_⟩:=I.tuple hb
 by_cases hx:xs=[]
 · obtain ⟨⟨cls,dd,data,sl⟩,ho,hc,n,hd⟩:=id p1
   obtain ⟨⟨T6,SI,data2,SJ⟩,DK,DN,n2,hd2⟩:=id p2
   simp only at hc hd DN hd2
   subst hc hd DN hd2
   exact concat_meets ⟨_,ho,rfl⟩ ⟨_,DK,rfl⟩ noFill_tuple_add seq_tuple_add YM YI (YH _ _)
    (tuple_addW0 a b aP.toArray fZ.toArray n n2 dd SI sl SJ (by simp [r1.nE.mpr hx])) ⟨ho,DK,⟨.ref b,H,I,rfl,q0 hx⟩⟩
 · refine HT.Jm p1 p2 (fun z=>hx (r1.nE.mp z)) (fun z=>⟨.ref a,H,I,rfl,q1 hx (r2.nE.mp z)⟩) (fun z=>?_) (by rw [← r1.length,← r2.length]; exact hz)
   refine ⟨.ref s.heap.objs.size,_,I.laid (t':=s.toks) (o:=.tup (xs ++ ys)) (fun b ob q=>fH _ q) (dm _) ?_,rfl,q2 hx (fun w=>z (r2.nE.mpr w)) _ (I.cg.fresh (dm _))⟩
   exact ⟨by rw [uY]; exact hz,_,r1.append r2,IsTup.new _ _⟩
end
def M8 (K:KFr):R2:=fun x y H Q=>vq (fun i j=>.int (i+j)) x y H Q∨(fun x y H Q=>∃ i j,x = .str i∧y = .str j∧i.length+j.length≤sizeLine∧Q (.str (i ++ j)) H) x y H Q∨M6 K x y H Q∨M7 K x y H Q
theorem JQ {X:Cx}:fu X (binaryOp .Add) (M8 X.K):=fu.or OS (fu.or yh (fu.or JO JP))
def PF (x y:T) (q:Rt→Prop):Prop:=match x,y with
 | .int i,.int j=>q (.vw (.int (i+j)))
 | .str i,.str j=>i.length+j.length≤sizeLine∧q (.vw (.str (i ++ j)))
 | .lst a,.lst b=>a.length+b.length≤sizeLine∧q (.fr (.lst (a ++ b)))
 | .tup a,.tup b=>a.length+b.length≤sizeLine∧q (.vw (.tup (a ++ b)))
 | _,_=>False
theorem JR {K:KFr}:ow K (M8 K) PF:=by
 intro Z tm O ρ σ H x y v w q Q I h1 h2 h k
 unfold PF at h
 split at h
 · exact .inl ⟨_,_,h1.int,h2.int,k _ h _ H (aN.refl H) ⟨I,bb⟩⟩
 · exact .inr (.inl ⟨_,_,h1.str,h2.str,h.1,k _ h.2 _ H (aN.refl H) ⟨I,cP⟩⟩)
 · obtain ⟨a,vs,rfl,s1,a1⟩:=h1.lst
   obtain ⟨b,ws,rfl,s2,a2⟩:=h2.lst
   exact .inr (.inr (.inl ⟨a,b,vs,ws,rfl,rfl,s1,s2,by rw [a1.length,a2.length]; exact h.1,fun p hp=>k _ h.2 _ _ (aG hp) (I.B3 hp (a1.append a2))⟩))
 · obtain ⟨a,vs,rfl,s1,a1⟩:=h1.tup
   obtain ⟨b,ws,rfl,s2,a2⟩:=h2.tup
   refine .inr (.inr (.inr ⟨a,b,vs,ws,rfl,rfl,s1,s2,by rw [a1.length,a2.length]; exact h.1,fun e=>?_,fun _ e=>?_,fun _ _ p hp=>?_⟩))
   · subst e
     have e:=a1.length
     rename_i xs ys
     have e':xs=[]:=Xy.mp e.symm
     subst e'
     exact k _ h.2 _ H (aN.refl H) ⟨I,bX s2 a2⟩
   · subst e
     have e:=a2.length
     rename_i xs ys _
     have e':ys=[]:=Xy.mp e.symm
     subst e'
     exact k _ h.2 _ H (aN.refl H) ⟨I,by rw [IC]; exact bX s1 a1⟩
   · exact k _ h.2 _ _ (aG hp) ⟨I.same (aG hp),bX (dG.of aI) ((a1.append a2).same (aG hp))⟩
 · exact h.elim
section
variable {X:Cx} {Z:Zc} {e a b:Expr} {es:List Expr} {pos:Pos} {fa fb:FE}
theorem cu (ha:VR X Z a fa) (hb:VR X Z b fb):VP X Z (.BinOp a .Add b pos) (f2 fa fb PF):=fW JQ JR ha hb
theorem jM (ha:VR X Z a fa) (hb:VR X Z b fb):VP X Z (.BinOp a .Sub b pos) (f2 fa fb Pw):=fW OT JJ ha hb
theorem lj (ha:VR X Z a fa) (hb:VR X Z b fb):VP X Z (.BinOp a .Mult b pos) (f2 fa fb Px):=fW OU JK ha hb
theorem cn (ha:VR X Z a fa) (hb:VR X Z b fb):VP X Z (.BinOp a .FloorDiv b pos) (f2 fa fb Py):=fW Jg JL ha hb
theorem bx (ha:VR X Z a fa) (hb:VR X Z b fb):VP X Z (.BinOp a .Mod b pos) (f2 fa fb Pz):=fW OW JM ha hb
theorem ix (ha:VR X Z a fa) (hb:VR X Z b fb):VP X Z (.BinOp a .Pow b pos) (f2 fa fb PB):=fW OX JN ha hb
def ZS (f:FE):FP:=fun ρ Q=>f ρ fun x=>match x with
 | .int i=>Q (.vw (.int (-i)))
 | _=>False
theorem ll (ha:VR X Z a fa):VP X Z (.UnaryOp .USub a pos) (ZS fa):=.mk fun tm=>PE.weak (MO Eg (ha tm)) fun σ H Q ⟨ρ,O,q,I,hf,k⟩=>⟨ρ,O,_,I,hf,fun t ht v H1 s1 a1=>by
 split at ht
 · exact ⟨_,a1.int,k _ ht _ H1 s1 ⟨I.same s1,bb⟩⟩
 · exact ht.elim⟩
theorem M9 (hu:X.A.units+101 < cLine) (ha:VR X Z a fa) (hb:VR X Z b fb):VP X Z (.Compare a [.Eq] [b] pos) (f2 fa fb MZ):=yA (EI hu) EJ ha hb (gN _)
theorem UC (ha:VR X Z a fa) (hb:VR X Z b fb):VP X Z (.Compare a [.Lt] [b] pos) (f2 fa fb X6):=yA MQ EK ha hb (gN _)
theorem cp (hu:X.A.units+101 < cLine) (ha:VR X Z a fa) (hb:VR X Z b fb):VC X Z (.Compare a [.Eq] [b] pos) (m7 (f2 fa fb MZ)):=ir (EI hu) EJ ha hb (gN _)
theorem vJ (hu:X.A.units+101 < cLine) (ha:VR X Z a fa) (hb:VR X Z b fb):VC X Z (.Compare a [.NotEq] [b] pos) (m7 (f2 fa fb X5)):=ir (Pt hu) Pu ha hb (gN _)
theorem vK (ha:VR X Z a fa) (hb:VR X Z b fb):VC X Z (.Compare a [.Lt] [b] pos) (m7 (f2 fa fb X6)):=ir MQ EK ha hb (gN _)
theorem M_ (ha:VR X Z a fa) (hb:VR X Z b fb):VC X Z (.Compare a [.Gt] [b] pos) (m7 (f2 fa fb ZQ)):=ir TU PC ha hb (gN _)
theorem UD (ha:VR X Z a fa) (hb:VR X Z b fb):VC X Z (.Compare a [.GtE] [b] pos) (m7 (f2 fa fb ZR)):=ir TV PD ha hb (gN _)
def f3 (fa fb fc:FE) (p p':T→T→(Rt→Prop)→Prop):FP:=fun ρ Q=>fa ρ fun x=>fb ρ fun y=>p x y fun r=>match r with
 | .vw (.bl true)=>fc ρ fun z=>p' y z Q
 | .vw (.bl false)=>Q (.vw (.bl false))
 | _=>False
end
theorem EL {K:KFr} {H:Hp} {A:List Addr} {ts:List T} {vs:List V} {i:Int} {t:T} (h:az K H A ts vs) (e:kY ts i=some t):∃ v,kY vs i=some v∧At K H A t v:=by
 unfold kY at e ⊢
 rw [h.length]
 cases q:uZ ts.length i with
 | none=>rw [q] at e; cases e
 | some j =>
   rw [q] at e
   obtain ⟨v,h1,h2⟩:=h.get (i:=j) e
   exact ⟨v,h1,h2⟩
def X7 (x y:T) (q:Rt→Prop):Prop:=match x,y with
 | .lst ts,.int i=>∃ t,kY ts i=some t∧q (.vw t)
 | .tup ts,.int i=>∃ t,kY ts i=some t∧q (.vw t)
 | .str z,.int i=>z.length≤sizeLine∧∃ c,kY z.cps.toList i=some c∧q (.vw (.str ⟨#[c]⟩))
 | _,_=>False
theorem PH {K:KFr}:ow K (rIx K) X7:=by
 intro Z tm O ρ σ H x y v w q Q I h1 h2 h k
 unfold X7 at h
 split at h
 · obtain ⟨t,e,h⟩:=h
   obtain ⟨a,vs,rfl,s1,a1⟩:=h1.lst
   obtain ⟨u,e',a2⟩:=EL a1 e
   exact .inl ⟨a,vs,_,u,rfl,h2.int,s1,e',k _ h _ H (aN.refl H) ⟨I,a2⟩⟩
 · obtain ⟨t,e,h⟩:=h
   obtain ⟨a,vs,rfl,s1,a1⟩:=h1.tup
   obtain ⟨u,e',a2⟩:=EL a1 e
   exact .inr (.inl ⟨a,vs,_,u,rfl,h2.int,s1,e',k _ h _ H (aN.refl H) ⟨I,a2⟩⟩)
 · obtain ⟨hz,c,e,h⟩:=h
   exact .inr (.inr ⟨_,_,c,h1.str,h2.int,hz,e,k _ h _ H (aN.refl H) ⟨I,cP⟩⟩)
 · exact h.elim
section
variable {X:Cx} {Z:Zc} {e a b:Expr} {es:List Expr} {pos:Pos} {fa fb:FE}
theorem aH (ha:VR X Z a fa) (hb:VR X Z b fb) (hs:nF b:=by exact fun _ _=>rfl):VP X Z (.Subscript a b pos) (f2 fa fb X7) :=
 .mk fun tm=>PE.weak (Er O7 (ha tm) (hb tm) hs) (two PH)
end
abbrev FO:=En→(Option Int→Prop)→Prop
def lO (X:Cx) (Z:Zc) (tm:List (T×V)) (f:FO):TO:=fun σ H Q=>∃ ρ O q,ax X.K Z tm O ρ σ H∧f ρ q∧∀ o,q o→∀ H',aN H H'→Q o H'
def VO (X:Cx) (Z:Zc) (e:Option Expr) (f:FO):Prop:=Bx fun tm=>PO X e (lO X Z tm f)
instance {X:Cx} {Z:Zc} {e:Option Expr} {f:FO}:CoeFun (VO X Z e f) fun _=>∀ tm,PO X e (lO X Z tm f):=⟨fun h=>Bx.h h⟩
theorem PO.weak {X:Cx} {e:Option Expr} {t t':TO} (h:PO X e t) (hw:∀ σ H Q,t' σ H Q→t σ H Q):PO X e t':=fun pins s σ H Q I q=>h pins s σ H Q I (hw _ _ _ q)
def fO0:FO:=fun _ Q=>Q none
def fO1 (f:FE):FO:=fun ρ Q=>f ρ fun t=>match t with
 | .int i=>Q (some i)
 | _=>False
def f_ {α:Type} (xs:List α) (lo hi:Option Int):List α:=(xs.drop (HT.dy xs.length 0 lo)).take (HT.dy xs.length xs.length hi - HT.dy xs.length 0 lo)
theorem az.cut {K:KFr} {H:Hp} {A:List Addr} {ts:List T} {vs:List V} (h:az K H A ts vs) (lo hi:Option Int):az K H A (f_ ts lo hi) (vz vs lo hi):=by
 unfold f_ vz
 rw [h.length]
 exact (h.drop _).take _
def ZT (K:KFr):V→Option Int→Option Int→Hp→VK→Prop:=fun x lo hi H Q=>Uc K x lo hi H Q∨T9 K x lo hi H Q∨Uv x lo hi H Q
theorem ZU {X:Cx}:Eo X (ZT X.K):=Eo.or Js (Eo.or O5 Pl)
def pSl (x:T) (lo hi:Option Int) (q:Rt→Prop):Prop:=match x with
 | .lst ts=>q (.fr (.lst (f_ ts lo hi)))
 | .tup ts=>¬ (HT.dy ts.length 0 lo=0∧HT.dy ts.length ts.length hi=ts.length)∧q (.vw (.tup (f_ ts lo hi)))
 | .str z=>z.length≤sizeLine∧q (.vw (.str (Txt.slice z lo hi)))
 | _=>False
def fSl (fa:FE) (fl fh:FO):FP:=fun ρ Q=>fa ρ fun x=>fl ρ fun lo=>fh ρ fun hi=>pSl x lo hi Q
section
variable {X:Cx} {Z:Zc} {e a b:Expr} {lo hi:Option Expr} {pos p2:Pos} {fa:FE} {fl fh:FO}
theorem i9:VO X Z none fO0:=.mk fun tm=>PO.weak Jp fun σ H Q ⟨ρ,O,q,I,hf,k⟩=>k _ hf H (aN.refl H)
theorem fK (h:VR X Z e fa):VO X Z (some e) (fO1 fa):=.mk fun tm=>PO.weak (Jq (h tm)) fun σ H Q ⟨ρ,O,q,I,hf,k⟩=>⟨ρ,O,_,I,hf,fun t ht v H' s z=>by
 split at ht
 · exact ⟨_,z.int,k _ ht H' s⟩
 · exact ht.elim⟩
theorem eS (he:VR X Z e fa) (hl:VO X Z lo fl) (hh:VO X Z hi fh):VP X Z (.Subscript e (.Slice lo hi none p2) pos) (fSl fa fl fh) :=
 .mk fun tm=>PE.weak (Ep ZU (he tm) (hl tm) (hh tm)) fun σ H Q ⟨ρ,O,q,I,hf,k⟩=>⟨ρ,O,_,I,hf,fun x hx v H1 s1 a1=>⟨ρ,O,_,I.same s1,hx,fun l hl H2 s2=>⟨ρ,O,_,(I.same s1).same s2,hl,fun u hu H3 s3=>by
  have J:=((I.same s1).same s2).same s3
  have a3:=(a1.same s2).same s3
  have S:=(s1.trans s2).trans s3
  unfold pSl at hu
  split at hu
  · obtain ⟨p,vs,rfl,q1,q2⟩:=a3.lst
    exact .inl ⟨p,vs,rfl,q1,fun r hr=>k _ hu _ _ (S.trans (aG hr)) (J.B3 hr (q2.cut _ _))⟩
  · obtain ⟨p,vs,rfl,q1,q2⟩:=a3.tup
    refine .inr (.inl ⟨p,vs,rfl,q1,by rw [q2.length]; exact hu.1,fun r hr=>k _ hu.2 _ _ (S.trans (aG hr)) ⟨J.same (aG hr),bX (dG.of aI) ((q2.cut _ _).same (aG hr))⟩⟩)
  · exact .inr (.inr ⟨_,a3.str,hu.1,k _ hu.2 _ H3 S ⟨J,cP⟩⟩)
  · exact hu.elim⟩⟩⟩
end
def M' (g:FA) (p:List T→(Rt→Prop)→Prop):FP:=fun ρ Q=>g ρ fun ts=>p ts Q
def mJ (K:KFr) (r:List V→Hp→VK→Prop) (p:List T→(Rt→Prop)→Prop):Prop :=
 ∀ (Z:Zc) (tm:List (T×V)) (O:List (Option Addr)) (ρ:En) (σ:St) (H:Hp) (ts:List T) (vs:List V) (q:Rt→Prop) (Q:VK),ax K Z tm O ρ σ H→Paired (fun v t=>gq K H (av Z O) t v) vs ts→p ts q →
  (∀ t,q t→∀ u H',aN H H'→fD K Z tm O ρ σ H' t u→Q u H')→r vs H Q
section
variable {X:Cx} {Z:Zc} {e a b:Expr} {es:List Expr} {pos p:Pos} {g:FA} {x:Str} {id Ty:String} {r:List V→Hp→VK→Prop} {pp:List T→(Rt→Prop)→Prop}
theorem bq (hc:dA X (.builtin id) r) (ht:mJ X.K r pp) (hg:Gl X x) (hm:X.mg x=none) (hv:bootBuiltins x=some (.builtin id)) (ha:MY X Z (e :: es) g) (hn:x≠"__name__":=by decide) (qm:ic x:=by decide)
  (hs:starEach (e :: es) X.env=(false,eval e X.env) :: starEach es X.env:=by rfl) (jy:(backTo pos (starEach es X.env)).any (·.1)=false:=by rfl):VP X Z (.Call (.Name x p) (e :: es) [] pos) (M' g pp) :=
 .mk fun tm=>PE.weak (og hc hg hm hv (ha tm) hn qm hs jy) fun σ H Q ⟨ρ,O,q,I,hf,k⟩=>⟨ρ,O,_,I,hf,fun ts eL vs H1 s1 a1=>ht Z tm O ρ σ H1 ts vs q _ (I.same s1) a1 eL fun t h u H' s z=>k t h u H' (s1.trans s) z⟩
theorem cK (hc:dA X (.type Ty) r) (ht:mJ X.K r pp) (hg:Gl X x) (hm:X.mg x=none) (hv:bootBuiltins x=some (.type Ty)) (ha:MY X Z (e :: es) g) (hn:x≠"__name__":=by decide) (qm:ic x:=by decide)
  (hs:starEach (e :: es) X.env=(false,eval e X.env) :: starEach es X.env:=by rfl) (jy:(backTo pos (starEach es X.env)).any (·.1)=false:=by rfl):VP X Z (.Call (.Name x p) (e :: es) [] pos) (M' g pp) :=
 .mk fun tm=>PE.weak (BS hc hg hm hv (ha tm) hn qm hs jy) fun σ H Q ⟨ρ,O,q,I,hf,k⟩=>⟨ρ,O,_,I,hf,fun ts eL vs H1 s1 a1=>ht Z tm O ρ σ H1 ts vs q _ (I.same s1) a1 eL fun t h u H' s z=>k t h u H' (s1.trans s) z⟩
end
def UE (ts:List T) (q:Rt→Prop):Prop:=match ts with
 | [.lst l]=>q (.vw (.int l.length))
 | [.tup l]=>q (.vw (.int l.length))
 | [.str z]=>z.length≤sizeLine∧q (.vw (.int z.length))
 | _=>False
def Na (K:KFr):List V→Hp→VK→Prop:=fun xs H Q=>(∃ p ys,xs=[.ref p]∧(fA K H p ys∨dG K H p ys)∧Q (.int ys.length) H)∨(∃ z,xs=[.str z]∧z.length≤sizeLine∧Q (.int z.length) H)
theorem bc {X:Cx}:dA X (.builtin "len") (Na X.K):=dA.or sP sQ
theorem cS {α β:Type} {F:α→β→Prop} {vs:List α} {t:β} (h:Paired F vs [t]):∃ v,vs=[v]∧F v t:=by
 cases h with
 | cons r q=>cases q; exact ⟨_,rfl,r⟩
theorem JS {α β:Type} {F:α→β→Prop} {vs:List α} {t u:β} (h:Paired F vs [t,u]):∃ v w,vs=[v,w]∧F v t∧F w u:=by
 cases h with
 | cons r q=>cases q with
   | cons r2 q2=>cases q2; exact ⟨_,_,rfl,r,r2⟩
theorem bf {K:KFr}:mJ K (Na K) UE:=by
 intro Z tm O ρ σ H ts vs q Q I h hp k
 unfold UE at hp
 split at hp
 · obtain ⟨v,rfl,a⟩:=cS h
   obtain ⟨p,ws,rfl,q1,q2⟩:=a.lst
   exact .inl ⟨p,ws,rfl,.inl q1,k _ hp _ H (aN.refl H) ⟨I,by rw [q2.length]; exact bb⟩⟩
 · obtain ⟨v,rfl,a⟩:=cS h
   obtain ⟨p,ws,rfl,q1,q2⟩:=a.tup
   exact .inl ⟨p,ws,rfl,.inr q1,k _ hp _ H (aN.refl H) ⟨I,by rw [q2.length]; exact bb⟩⟩
 · obtain ⟨v,rfl,a⟩:=cS h
   exact .inr ⟨_,by rw [a.str],hp.1,k _ hp.2 _ H (aN.refl H) ⟨I,bb⟩⟩
 · exact hp.elim
def Nb (ts:List T) (q:Rt→Prop):Prop:=match ts with
 | [.lst l]=>q (.fr (.lst l))
 | [.tup l]=>q (.fr (.lst l))
 | _=>False
theorem eT {K:KFr}:mJ K (fun xs H Q=>∃ p ys,xs=[.ref p]∧(fA K H p ys∨dG K H p ys)∧∀ l,H l=none→Q (.ref l) (upd H l (.lst ys))) Nb:=by
 intro Z tm O ρ σ H ts vs q Q I h hp k
 unfold Nb at hp
 split at hp
 · obtain ⟨v,rfl,a⟩:=cS h
   obtain ⟨p,ws,rfl,q1,q2⟩:=a.lst
   exact ⟨p,ws,rfl,.inl q1,fun l hl=>k _ hp _ _ (aG hl) (I.B3 hl q2)⟩
 · obtain ⟨v,rfl,a⟩:=cS h
   obtain ⟨p,ws,rfl,q1,q2⟩:=a.tup
   exact ⟨p,ws,rfl,.inr q1,fun l hl=>k _ hp _ _ (aG hl) (I.B3 hl q2)⟩
 · exact hp.elim
def EM (ts:List T) (q:Rt→Prop):Prop:=match ts with
 | [.lst l]=>q (.vw (.tup l))
 | [.tup l]=>q (.vw (.tup l))
 | _=>False
theorem iy {K:KFr}:mJ K (fun xs H Q=>∃ p ys,xs=[.ref p]∧((fA K H p ys∧∀ l,H l=none→Q (.ref l) (upd H l (.tup ys)))∨(dG K H p ys∧Q (.ref p) H))) EM:=by
 intro Z tm O ρ σ H ts vs q Q I h hp k
 unfold EM at hp
 split at hp
 · obtain ⟨v,rfl,a⟩:=cS h
   obtain ⟨p,ws,rfl,q1,q2⟩:=a.lst
   exact ⟨p,ws,rfl,.inl ⟨q1,fun l hl=>k _ hp _ _ (aG hl) ⟨I.same (aG hl),bX (dG.of aI) (q2.same (aG hl))⟩⟩⟩
 · obtain ⟨v,rfl,a⟩:=cS h
   obtain ⟨p,ws,rfl,q1,q2⟩:=a.tup
   exact ⟨p,ws,rfl,.inr ⟨q1,k _ hp _ H (aN.refl H) ⟨I,bX q1 q2⟩⟩⟩
 · exact hp.elim
structure EN where
 nx:En→Prop
 rt:En→Rt→Prop
 bk:En→Prop:=fun _=>False
 ct:En→Prop:=fun _=>False
structure Fin (K:KFr) (Z:Zc) (tm:List (T×V)) (d:EN) (D:Ends):Prop where
 nx:∀ O ρ σ H,ax K Z tm O ρ σ H→d.nx ρ→D.nx σ H
 rt:∀ O ρ σ H r v,fD K Z tm O ρ σ H r v→d.rt ρ r→D.rt v H
 bk:∀ O ρ σ H,ax K Z tm O ρ σ H→d.bk ρ→D.bk σ H
 ct:∀ O ρ σ H,ax K Z tm O ρ σ H→d.ct ρ→D.ct σ H
abbrev FS:=EN→En→Prop
def lS (X:Cx) (Z:Zc) (tm:List (T×V)) (g:FS):TS:=fun D σ H=>∃ ρ O d,ax X.K Z tm O ρ σ H∧g d ρ∧Fin X.K Z tm d D
def VS (X:Cx) (Z:Zc) (st:Stmt) (g:FS):Prop:=Bx fun tm=>PS X st (lS X Z tm g)
instance {X:Cx} {Z:Zc} {st:Stmt} {g:FS}:CoeFun (VS X Z st g) fun _=>∀ tm,PS X st (lS X Z tm g):=⟨fun h=>Bx.h h⟩
def m8 (X:Cx) (Z:Zc) (st:List Stmt) (g:FS):Prop:=Bx fun tm=>gG X st (lS X Z tm g)
instance {X:Cx} {Z:Zc} {st:List Stmt} {g:FS}:CoeFun (m8 X Z st g) fun _=>∀ tm,gG X st (lS X Z tm g):=⟨fun h=>Bx.h h⟩
def br (Z:Zc) (i:Nat):Prop:=∀ p∈Z.P,p.1≠i
section
variable {X:Cx} {Z:Zc} {st:Stmt} {rest:List Stmt} {g u:FS} {e:Expr} {pos:Pos}
def UG:FS:=fun d ρ=>d.nx ρ
def UH (g u:FS):FS:=fun d ρ=>g { d with nx:=u d } ρ
theorem aO:m8 X Z [] UG:=.mk fun tm=>gG.h_ Au fun D σ H ⟨ρ,O,d,I,h,F⟩=>F.nx O ρ σ H I h
theorem aj (h1:VS X Z st g) (h2:m8 X Z rest u):m8 X Z (st :: rest) (UH g u):=.mk fun tm=>gG.h_ (bR (h1 tm) (h2 tm)) fun D σ H ⟨ρ,O,d,I,h,F⟩ =>
 ⟨ρ,O,{ d with nx:=u d },I,h,⟨fun O' ρ' σ' H' I' h'=>⟨ρ',O',d,I',h',F⟩,F.rt,F.bk,F.ct⟩⟩
theorem ar (h1:VS X Z st g):m8 X Z [st] g:=.mk fun tm=>i7 (h1 tm)
theorem m8.weak (h:m8 X Z rest g) (hw:∀ d ρ,u d ρ→g d ρ):m8 X Z rest u:=.mk fun tm=>gG.h_ (h tm) fun D σ H ⟨ρ,O,d,I,q,F⟩=>⟨ρ,O,d,I,hw d ρ q,F⟩
def UI (f:FX):FS:=fun d ρ=>f ρ fun ρ' _=>d.nx ρ'
theorem fM {f:FX} (h:VX X Z e f) (hs:swapsWith e none pos.line X.env=pure false:=by rfl):VS X Z (.Expr e pos) (UI f):=.mk fun tm=>PS.weak (i8 (h tm) hs) fun D σ H ⟨ρ,O,d,I,q,F⟩ =>
 ⟨ρ,O,_,I,q,fun ρ' r hr O' v H' z=>F.nx O' ρ' σ H' z.env hr⟩
def ZV (f:FX):FS:=fun d ρ=>f ρ fun ρ' r=>d.rt ρ' r
theorem aJ {f:FX} (h:VX X Z e f):VS X Z (.Return (some e) pos) (ZV f):=.mk fun tm=>PS.weak (sI (h tm)) fun D σ H ⟨ρ,O,d,I,q,F⟩ =>
 ⟨ρ,O,_,I,q,fun ρ' r hr O' v H' z=>F.rt O' ρ' σ H' r v z hr⟩
def gIf (c:FB) (g u:FS):FS:=fun d ρ=>c ρ fun b=>if b=true then g d ρ else u d ρ
theorem bE {c:Expr} {fc:FB} {a b:List Stmt} (hc:VC X Z c fc) (ha:m8 X Z a g) (hb:m8 X Z b u):VS X Z (.If c a b pos) (gIf fc g u):=.mk fun tm=>PS.weak (Eb (hc tm) (ha tm) (hb tm)) fun D σ H ⟨ρ,O,d,I,q,F⟩ =>
 ⟨ρ,O,_,I,q,fun b hb H' s=>by
   cases b with
   | true=>rw [if_pos rfl] at hb ⊢; exact ⟨ρ,O,d,I.same s,hb,F⟩
   | false=>rw [if_neg eC] at hb ⊢; exact ⟨ρ,O,d,I.same s,hb,F⟩⟩
def UJ (i:Nat) (f:FX):FS:=fun d ρ=>f ρ fun ρ' r=>d.nx (ρ'.set i (some (r.t,false)))
def ZW (i:Nat) (f:FX):FS:=fun d ρ=>f ρ fun ρ' r=>match r with
 | .fr t=>d.nx (ρ'.set i (some (t,true)))
 | _=>False
theorem bh {i:Nat} {x:Str} {f:FX} {pos':Pos} (hN:X.N.Nodup) (hi:X.N[i]?=some x) (hx:Loc X.env.scope x) (he:VX X Z e f) (hp:br Z i) (hs:swapsWith e (some (.Name x pos')) pos.line X.env=pure false:=by rfl)
  (hf:X.fn x=true∨X.env.scope.names.lookup x=some .local:=by first | exact .inl rfl | exact .inr rfl | assumption):VS X Z (.Assign [.Name x pos'] e pos) (UJ i f):=.mk fun tm=>PS.weak (n_ hN hi hx (he tm) hs hf) fun D σ H ⟨ρ,O,d,I,q,F⟩ =>
 ⟨ρ,O,_,I,q,fun ρ' r hr O' v H' z=>F.nx _ _ _ H' (z.env.put hp z.at) hr⟩
theorem dR {i:Nat} {x:Str} {f:FX} {pos':Pos} (hN:X.N.Nodup) (hi:X.N[i]?=some x) (hx:Loc X.env.scope x) (he:VX X Z e f) (hp:br Z i) (hs:swapsWith e (some (.Name x pos')) pos.line X.env=pure false:=by rfl)
  (hf:X.fn x=true∨X.env.scope.names.lookup x=some .local:=by first | exact .inl rfl | exact .inr rfl | assumption):VS X Z (.Assign [.Name x pos'] e pos) (ZW i f):=.mk fun tm=>PS.weak (n_ hN hi hx (he tm) hs hf) fun D σ H ⟨ρ,O,d,I,q,F⟩ =>
 ⟨ρ,O,_,I,q,fun ρ' r hr O' v H' z=>by
   split at hr
   · obtain ⟨a,rfl,J,hR,h0,X3⟩:=z
     exact F.nx _ _ _ H' (J.ZI hp hR h0 X3) hr
   · exact hr.elim⟩
def ZX (is:List Nat) (g:FS):FS:=fun d ρ=>g d (is.foldl (fun ρ i=>match ρ[i]? with
 | some (some (t,true))=>ρ.set i (some (t,false))
 | _=>ρ) ρ)
theorem oz {K:KFr} {tm:List (T×V)}:∀ (is:List Nat) {O:List (Option Addr)} {ρ:En} {σ:St} {H:Hp},(∀ i∈is,br Z i)→ax K Z tm O ρ σ H→∃ O',ax K Z tm O' (is.foldl (fun ρ i=>match ρ[i]? with
 | some (some (t,true))=>ρ.set i (some (t,false))
 | _=>ρ) ρ) σ H
 | [],O,ρ,σ,H,_,I=>⟨O,I⟩
 | i :: is,O,ρ,σ,H,hp,I=>by
   rw [List.foldl_cons]
   have SM:∀ j∈is,br Z j:=fun j hj=>hp j (eB _ hj)
   split
   · rename_i t e
     exact oz is SM (I.vh (hp i c6) e)
   · exact oz is SM I
theorem nH (is:List Nat) (h:m8 X Z rest g) (hp:∀ i∈is,br Z i):m8 X Z rest (ZX is g):=.mk fun tm=>gG.h_ (h tm) fun D σ H ⟨ρ,O,d,I,q,F⟩=>let ⟨O',I'⟩:=oz is hp I; ⟨_,O',d,I',q,F⟩
end
section
variable {X:Cx} {Z:Zc} {e a b:Expr} {es:List Expr} {pos apos aW:Pos}
theorem ax.root {K:KFr} {tm:List (T×V)} {O:List (Option Addr)} {ρ:En} {σ:St} {H:Hp} (I:ax K Z tm O ρ σ H) {k:Nat} {t:T} (e:ρ[k]?=some (some (t,true))):∃ a,O[k]?=some (some a)∧σ[k]?=some (some (.ref a))∧cC K H (av Z O) a t:=by
 obtain ⟨o,s,h1,h2,a,rfl,rfl,h3⟩:=I.sl k _ e
 exact ⟨a,h1,h2,h3⟩
def AH (k:Nat) (g:FA) (p:List T→List T→(List T→T→Prop)→Prop):FX:=fun ρ Q=>match ρ[k]? with
 | some (some (.lst ts,true))=>g ρ fun vs=>p ts vs fun lp r=>Q (ρ.set k (some (.lst lp,true))) (.vw r)
 | _=>False
def UK (K:KFr) (r:V→List V→Hp→VK→Prop) (p:List T→List T→(List T→T→Prop)→Prop):Prop :=
 ∀ (H:Hp) (A:List Addr) (l:Addr) (xs:List V) (ts us:List T) (vs:List V) (q:List T→T→Prop) (Q:VK),l∈A→H l=some (.lst xs)→az K H A ts xs→az K H A us vs→p ts us q →
  (∀ lp t,q lp t→∀ DP v,az K H A lp DP→At K H A t v→Q v (upd H l (.lst DP)))→r (.ref l) vs H Q
theorem AI {r:V→List V→Hp→VK→Prop} {p:List T→List T→(List T→T→Prop)→Prop} (hm:UK X.K r p) {k:Nat} {g:FA} {tm:List (T×V)} {σ:St} {H:Hp} {Q:VK} (h:lX X Z tm (AH k g p) σ H Q) :
  ∃ l,σ[k]?=some (some (.ref l))∧(∃ xs,fA X.K H l xs)∧lA X Z tm g σ H fun vs H1=>r (.ref l) vs H1 Q:=by
 obtain ⟨ρ,O,q,I,hf,kk⟩:=h
 unfold AH at hf
 split at hf
 · rename_i ts e0
   obtain ⟨l,h1,h2,xs,h3,h4⟩:=I.root e0
   refine ⟨l,h2,⟨xs,fA.of h3⟩,ρ,O,_,I,hf,fun us BV vs H1 s1 a1=>?_⟩
   have J:=I.same s1
   have ha:l∈av Z O:=cq _ (aK.mpr (ik h1))
   refine hm H1 (av Z O) l xs ts us vs _ Q ha (s1 _ _ h3) (h4.same s1) a1 BV fun lp t ht DP v b1 b2=>?_
   exact kk _ _ ht O _ _ ⟨J.wrote e0 h1 ⟨DP,aI,b1.wrote ha (s1 _ _ h3) rfl⟩,b2.wrote ha (s1 _ _ h3) rfl⟩
 · exact hf.elim
theorem rJ (k:Nat) {x name:Str} {id:String} {p:Pos} {g:FA} {r:V→List V→Hp→VK→Prop} {pp:List T→List T→(List T→T→Prop)→Prop} (slot:Slot "list" name id) (O_:typeOf (.builtin id)=pure (.type "method_descriptor")) (hm:MX X id r) (ht:UK X.K r pp) (ha:VA X Z (e :: es) g)
  (hN:X.N[k]?=some x:=by rfl) (hv:j5 X.env.scope x:=by first | exact Or.inl rfl | exact Or.inr (Or.inl rfl) | exact Or.inr (Or.inr rfl)) (hd:ic x:=by decide)
  (gn:va x:=by decide) (c7:attributeBase (.Name x p) name X.env (eval (.Name x p) X.env)=eval (.Name x p) X.env:=by rfl)
  (la:((backTo aW (starEach (e :: es) X.env)).all (fun x=>!x.1) && (backToKw aW (keywordEach [] X.env)).all (fun x=>x.1.isSome)
    && decide ((e :: es).length+([]:List Keyword).length+(if ([]:List Keyword).isEmpty then 0 else 1) < 30))=true:=by rfl)
  (c8:(apos.endLine == aW.line)=true:=by rfl) (hs:starEach (e :: es) X.env=(false,eval e X.env) :: starEach es X.env:=by rfl) (dP:(backTo aW (starEach es X.env)).any (·.1)=false:=by rfl) :
  VX X Z (.Call (.Attribute (.Name x p) name apos) (e :: es) [] aW) (AH k g pp):=.mk fun tm =>
 PE.weak (rD Sy slot O_ hm (bT hN hv hd gn) (ha tm) c7 la c8 hs dP) fun σ H Q h =>
  let ⟨l,h1,h2,h3⟩:=AI ht h; ⟨.ref l,h1,.inl ⟨rfl,h2⟩,h3⟩
theorem PJ (k:Nat) {x name:Str} {id:String} {p:Pos} {r:V→List V→Hp→VK→Prop} {pp:List T→List T→(List T→T→Prop)→Prop} (slot:Slot "list" name id) (O_:typeOf (.builtin id)=pure (.type "method_descriptor")) (hm:MX X id r) (ht:UK X.K r pp)
  (hN:X.N[k]?=some x:=by rfl) (hv:j5 X.env.scope x:=by first | exact Or.inl rfl | exact Or.inr (Or.inl rfl) | exact Or.inr (Or.inr rfl)) (hd:ic x:=by decide)
  (gn:va x:=by decide) (c7:attributeBase (.Name x p) name X.env (eval (.Name x p) X.env)=eval (.Name x p) X.env:=by rfl)
  (c8:(apos.endLine == aW.line)=true:=by rfl):VX X Z (.Call (.Attribute (.Name x p) name apos) [] [] aW) (AH k yD pp):=.mk fun tm =>
 PE.weak (sR Sy slot O_ hm (bT hN hv hd gn) c7 c8) fun σ H Q h=>by
  obtain ⟨l,h1,h2,ρ,O,q,I,hf,kk⟩:=AI ht h
  exact ⟨.ref l,h1,.inl ⟨rfl,h2⟩,kk [] hf [] H (aN.refl H) az.nil⟩
def AJ (ts us:List T) (q:List T→T→Prop):Prop:=match us with
 | [t]=>ts.length < sizeLine∧q (ts ++ [t]) .aT
 | _=>False
theorem dS {K:KFr}:UK K AB AJ:=by
 intro H A l xs ts us vs q Q hl hH h1 h2 hp k
 unfold AJ at hp
 split at hp
 · obtain ⟨v,rfl,a⟩:=cS (az.iff.mp h2)
   exact ⟨l,xs,v,rfl,rfl,hH,by rw [h1.length]; exact hp.1,k _ _ hp.2 _ _ (h1.append (az.cons a az.nil)) yz⟩
 · exact hp.elim
def ZY (ts us:List T) (q:List T→T→Prop):Prop:=us=[]∧∃ t,ts[ts.length - 1]?=some t∧q ts.dropLast t
theorem az.dropLast {K:KFr} {H:Hp} {A:List Addr} {ts:List T} {vs:List V} (h:az K H A ts vs):az K H A ts.dropLast vs.dropLast:=by
 rw [List.dropLast_eq_take,List.dropLast_eq_take,h.length]
 exact h.take _
theorem JT {K:KFr}:UK K Ue ZY:=by
 intro H A l xs ts us vs q Q hl hH h1 h2 hp k
 obtain ⟨rfl,t,e1,hq⟩:=hp
 have e:vs=[]:=by simpa only [az] using h2
 obtain ⟨v,e2,a⟩:=h1.get e1
 exact ⟨l,xs,v,rfl,e,hH,by rw [h1.length]; exact e2,k _ _ hq _ _ h1.dropLast a⟩
def Nc (k:Nat) (f fi:FE):FS:=fun d ρ=>match ρ[k]? with
 | some (some (.lst ts,true))=>f ρ fun v=>fi ρ fun i=>match i with
   | .int j=>∃ n,uZ ts.length j=some n∧d.nx (ρ.set k (some (.lst (ts.set n v),true)))
   | _=>False
 | _=>False
theorem lq (k:Nat) {x:Str} {p:Pos} {f fi:FE} {i:Expr} {fB:Pos} (he:VE X Z e f) (hi:VR X Z i fi)
  (hN:X.N[k]?=some x:=by rfl) (hv:j5 X.env.scope x:=by first | exact Or.inl rfl | exact Or.inr (Or.inl rfl) | exact Or.inr (Or.inr rfl)) (hd:ic x:=by decide)
  (gn:va x:=by decide)
  (ha:∀ v,assign (.Subscript (.Name x p) i fB) X.env v=(do
    let ov ← holding [v] (eval (.Name x p) X.env)
    let iv ← holding [v,ov] (eval i X.env)
    standAt fB
    holding [v,ov,iv] (setItem ov iv v)
    release [v,ov,iv] []):=by intro _; rfl)
  (hs:swapsWithSole [.Subscript (.Name x p) i fB] e pos.line X.env=pure false:=by rfl) (hw:swappedStores [.Subscript (.Name x p) i fB] e X.env=pure none:=by rfl)
  (h1:(assignEach [.Subscript (.Name x p) i fB] X.env).map (·.2)=[assign (.Subscript (.Name x p) i fB) X.env]:=by rfl):VS X Z (.Assign [.Subscript (.Name x p) i fB] e pos) (Nc k f fi):=.mk fun tm =>
 PS.weak (OK (he tm) (OJ (bT hN hv hd gn) (hi tm) set_list ha) hs hw h1) fun D σ H ⟨ρ,O,d,I,q,F⟩=>by
  unfold Nc at q
  split at q
  · rename_i ts e0
    obtain ⟨l,h1,h2,xs,h3,h4⟩:=I.root e0
    have ha:l∈av Z O:=cq _ (aK.mpr (ik h1))
    refine ⟨ρ,O,_,I,q,fun t ht v H1 s1 a1=>⟨.ref l,h2,ρ,O,_,I.same s1,ht,fun j hj w H2 s2 a2=>?_⟩⟩
    split at hj
    · obtain ⟨n,e1,hj⟩:=hj
      refine ⟨l,xs,_,n,rfl,a2.int,s2 _ _ (s1 _ _ h3),by rw [h4.length]; exact e1,?_⟩
      refine F.nx O _ σ _ (((I.same s1).same s2).wrote (t':=.lst (ts.set n t)) e0 h1 ⟨xs.set n v,aI,?_⟩) hj
      exact az.wrote ha (s2 _ _ (s1 _ _ h3)) rfl (((h4.same s1).same s2).set n (a1.same s2))
    · exact hj.elim
  · exact q.elim
theorem ax.give {K:KFr} {tm:List (T×V)} {O:List (Option Addr)} {ρ:En} {σ:St} {H:Hp} (I:ax K Z tm O ρ σ H) {i:Nat} {t:T} (hp:br Z i) (hi:ρ[i]?=some (some (t,true))):∃ a,σ[i]?=some (some (.ref a))∧fD K Z tm (O.set i none) (ρ.set i none) σ H (.fr t) (.ref a):=by
 obtain ⟨a,h1,h2,h3⟩:=I.root hi
 have ha:a∈roots O:=aK.mpr (ik h1)
 obtain ⟨o1,o2,o3⟩:=I.own a ha
 have J:=I.forget hp
 have J2:=I.vh hp hi
 have na:a∉roots (O.set i none):=fun z=>by
  obtain ⟨o,s,g1,g2,g3,v,g4,g5⟩:=J2.sl i (some (t,false)) (by rw [Am (by rw [← I.lO]; exact (fG.mp h1).1)])
  rw [h2] at g2
  cases g2
  cases g4
  have nn:a∉av Z (O.set i none):=by
   obtain ⟨u,eu,mu⟩:=h3.mut
   cases t with
   | lst ts=>simp only [At] at g5; obtain ⟨b,vs,eb,l,_⟩:=g5; cases eb; rcases l with l | ⟨oo,_,_,lk,_⟩
             · exact l.2
             · exact fun z2=>by
                have key:∀ (O:List (Option Addr)) (i:Nat),O[i]?=some (some a)→(roots O).Nodup→a∉roots (O.set i none):=by
                 intro O
                 induction O with
                 | nil=>intro i h; simp at h
                 | cons o O ih =>
                   intro i h nd
                   cases i with
                   | zero =>
                     have:o=some a:=by simpa using h
                     subst this
                     simp only [roots,Mw,mx,id] at nd ⊢
                     exact (jI.mp nd).1
                   | succ i =>
                     have h':O[i]?=some (some a):=by simpa using h
                     cases o with
                     | none=>simp only [roots,DV,mx,id] at nd ⊢; exact ih i h' nd
                     | some b =>
                       simp only [roots,DV,mx,id] at nd ⊢
                       rw [jI] at nd
                       intro z
                       rcases cY.mp z with z | z
                       · exact nd.1 (by rw [← z]; exact aK.mpr (ik h'))
                       · exact ih i h' nd.2 z
                rcases cA.mp z2 with z2 | z2
                · exact key O i h1 I.nd z2
                · exact o2 z2
   | dk ks ts=>simp only [At] at g5; obtain ⟨b,vs,eb,_,d,_⟩:=g5; cases eb; exact d.2
   | dt ks ts=>simp only [At] at g5; obtain ⟨b,vs,eb,_,d,_⟩:=g5; cases eb; exact d.2
   | ins C ns ts=>simp only [At] at g5; obtain ⟨b,dx,vs,eb,_,d,_⟩:=g5; cases eb; exact d.2
   | _=>exact h3.elim
  exact nn (cq _ z)
 have hP:Z.H0 a=none:=by
  rcases o1 with z | z
  · obtain ⟨p,hpm,rfl⟩:=vd.mp z
    have:=J.par p hpm
    exact absurd (aK.mpr (ik this)) na
  · exact z
 have sub:∀ b∈av (Z.ex a) (O.set i none),b∈av Z O:=fun b hb=>by
  rcases dQ b hb with z | z
  · exact bV i b z
  · rw [z]; exact cq _ ha
 refine ⟨a,h2,a,rfl,⟨J.lσ,J.lO,fun j e h=>?_,J.nd,fun b hb=>?_,J.par,fun b hb=>?_,J.keep,fun p hp=>(I.m6 p hp).aX sub⟩,h3.aX sub,hP,o2⟩
 · rcases get_set h with ⟨rfl,rfl,hl⟩ | ⟨ne,h⟩
   · obtain ⟨o,s,g1,g2,g3⟩:=J.sl j none (by rw [Am hl])
     exact ⟨o,s,g1,g2,g3⟩
   · obtain ⟨o,s,g1,g2,g3⟩:=I.sl j e h
     exact ⟨o,s,by rw [rf (Ne.symm ne)]; exact g1,g2,g3.map (fun _ _ q=>q.aX sub) fun _ _ _ q=>q.aX sub⟩
 · obtain ⟨q1,q2,q3⟩:=J.own b hb
   refine ⟨q1,fun z=>?_,q3⟩
   rcases cY.mp z with z | z
   · exact na (by rw [← z]; exact hb)
   · exact q2 z
 · rcases cY.mp hb with z | z
   · obtain ⟨u,eu,_⟩:=o3; rw [z,eu]; simp
   · exact I.ox b z
def Nd (i:Nat):FX:=fun ρ Q=>match ρ[i]? with
 | some (some (t,true))=>Q (ρ.set i none) (.fr t)
 | some (some (t,false))=>Q ρ (.vw t)
 | _=>False
theorem AK (i:Nat) {x:Str} (hp:br Z i) (hN:X.N[i]?=some x:=by rfl) (hv:j5 X.env.scope x:=by first | exact Or.inl rfl | exact Or.inr (Or.inl rfl) | exact Or.inr (Or.inr rfl)) (hd:ic x:=by decide)
  (gn:va x:=by decide):VX X Z (.Name x pos) (Nd i):=.mk fun tm=>PE.weak (bT hN hv hd gn) fun σ H Q ⟨ρ,O,q,I,hf,k⟩=>by
 unfold Nd at hf
 split at hf
 · rename_i t e
   obtain ⟨a,h1,h2⟩:=I.give hp e
   exact ⟨_,h1,k _ _ hf _ _ H h2⟩
 · rename_i t e
   obtain ⟨o,s,h1,h2,rfl,v,rfl,h3⟩:=I.sl i _ e
   exact ⟨v,h2,k _ _ hf O v H ⟨I,h3⟩⟩
 · exact hf.elim
end
theorem ax.vL {K:KFr} {Z:Zc} {tm tm':List (T×V)} {O:List (Option Addr)} {ρ:En} {σ:St} {H:Hp} (I:ax K Z tm O ρ σ H) (h:∀ p∈tm',At K H (av Z O) p.1 p.2):ax K Z tm' O ρ σ H :=
 ⟨I.lσ,I.lO,I.sl,I.nd,I.own,I.par,I.ox,I.keep,h⟩
theorem fD.vL {K:KFr} {Z:Zc} {bW tm:List (T×V)} {O:List (Option Addr)} {ρ:En} {σ:St} {H:Hp} {r:Rt} {v:V} (h:fD K Z (bW ++ tm) O ρ σ H r v):fD K Z tm O ρ σ H r v:=by
 cases r with
 | vw t=>exact ⟨h.1.vL fun p hp=>h.1.m6 p (bO _ hp),h.2⟩
 | fr t=>obtain ⟨a,e,I,q⟩:=h; exact ⟨a,e,I.vL fun p hp=>I.m6 p (bO _ hp),q⟩
def Wk (K:KFr) (J:It) (bW:List (T×V)) (ts:List T):Prop:=∀ H A,(∀ a∈A,H a≠none)→(∀ p∈bW,At K H A p.1 p.2)→∀ i:Nat,
 (i < ts.length→J.go i H)∧(ts.length=i→J.stop i H)∧∀ t,ts[i]?=some t→∀ x H',J.TC i H x H'→aN H H'∧At K H' A t x
abbrev FI:=En→(List T→Prop)→Prop
def lI (X:Cx) (Z:Zc) (tm:List (T×V)) (f:FI):TI:=fun σ H R=>∃ ρ O q,ax X.K Z tm O ρ σ H∧f ρ q∧∀ ts,q ts→∀ J H' bW,aN H H'→(∀ p∈bW,At X.K H' (av Z O) p.1 p.2)→Wk X.K J bW ts→R J H'
def VI (X:Cx) (Z:Zc) (tg iter:Expr) (f:FI):Prop:=Bx fun tm=>PI X tg iter (lI X Z tm f)
instance {X:Cx} {Z:Zc} {tg iter:Expr} {f:FI}:CoeFun (VI X Z tg iter f) fun _=>∀ tm,PI X tg iter (lI X Z tm f):=⟨fun h=>Bx.h h⟩
theorem PI.weak {X:Cx} {tg e:Expr} {t t':TI} (h:PI X tg e t) (hw:∀ σ H R,t' σ H R→t σ H R):PI X tg e t':=fun pins s σ H R I q=>h pins s σ H R I (hw _ _ _ q)
theorem PG.weak {X:Cx} {tg:Expr} {t t':TG} (h:PG X tg t) (hw:∀ v σ H Q,t' v σ H Q→t v σ H Q):PG X tg t':=fun pins s σ H v u Q I r q=>h pins s σ H v u Q I r (hw _ _ _ _ q)
theorem Ec.weak {X:Cx} {tg:List Expr} {t t':Jb} (h:Ec X tg t) (hw:∀ v σ H Q,t' v σ H Q→t v σ H Q):Ec X tg t':=fun pins s σ H v u Q I r q=>h pins s σ H v u Q I r (hw _ _ _ _ q)
def ZZ (K:KFr) (tl:TE):TI:=fun σ H R=>tl σ H fun x H1=>(∃ a,x = .ref a∧(∃ xs,fA K H1 a xs)∧R (Za K a) H1)∨(∃ a,x = .ref a∧(∃ xs,dG K H1 a xs)∧R (Zb K a) H1)∨∃ z,x = .str z∧R (X4 z) H1
section
variable {X:Cx} {Z:Zc} {tg:Expr}
theorem PK {l:Expr} {tl:TE} (hl:PE X l tl):PI X tg l (ZZ X.K tl):=by
 intro pins s σ H R I h
 refine cm (hl pins s σ H _ I h) fun v s1 ⟨x,H1,I1,r1,q1⟩=>?_
 rcases q1 with ⟨a,e,hq,q⟩ | ⟨a,e,hq,q⟩ | ⟨z,e,q⟩
 · subst e
   cases r1
   obtain ⟨xs,hq⟩:=hq
   obtain ⟨aP,rv,p,hz⟩:=I1.list hq
   refine wpAny_pyIter_list p.isList ?_
   refine ⟨s1.heap.objs.size,[s1.heap.objs.size],_,_,H1,rfl,I1.kept (t':=s1.toks) fun b o e=>fH _ e,BI a _,⟨_,mZ _ rfl,rfl,rfl⟩,fun b hb=>?_,q⟩
   have e:b=s1.heap.objs.size:=by simpa using hb
   subst e
   exact I1.m4 (dm _) (I1.cg.fresh (dm _))
 · subst e
   cases r1
   obtain ⟨xs,hq⟩:=hq
   obtain ⟨aP,rv,p,hz⟩:=I1.tuple hq
   refine wpAny_pyIter_tuple (show s1.heap.IsTuple a aP.toArray from p) ?_
   refine ⟨s1.heap.objs.size,[s1.heap.objs.size],_,_,H1,rfl,I1.kept (t':=s1.toks) fun b o e=>fH _ e,ye a _,⟨_,mZ _ rfl,rfl,rfl⟩,fun b hb=>?_,q⟩
   have e:b=s1.heap.objs.size:=by simpa using hb
   subst e
   exact I1.m4 (dm _) (I1.cg.fresh (dm _))
 · subst e
   obtain ⟨t,rfl⟩:=r1
   refine wpAny_pyIter_strU ?_
   have I2:Inv X pins σ H1 { s1 with heap:=s1.heap.push { cls:=.type (strIterType z),data:=.fields #[.str z t,.int 0 0] } }:=I1.kept (t':=s1.toks) fun b o e=>fH _ e
   refine ⟨s1.heap.objs.size,[s1.heap.objs.size],_,_,H1,rfl,I2,EE z t _,⟨_,mZ _ rfl,rfl,rfl⟩,fun b hb=>?_,q⟩
   have e:b=s1.heap.objs.size:=by simpa using hb
   subst e
   exact I1.m4 (dm _) I1.fresh
def Z0 (f:FE):FI:=fun ρ Q=>f ρ fun t=>match t with
 | .lst ts=>Q ts
 | .tup ts=>Q ts
 | .str z=>Q (z.cps.toList.map fun c=>.str ⟨#[c]⟩)
 | _=>False
theorem JU {K:KFr} {a:Addr} {ts:List T}:Wk K (Za K a) [(.lst ts,.ref a)] ts:=fun H A hA h i=>by
 have h:=h _ c6
 simp only [At] at h
 obtain ⟨b,vs,e,l,q⟩:=h
 cases e
 have hl:=q.length
 refine ⟨fun hi=>⟨vs,vs[i]'(by omega),l.sq,by simp⟩,fun hi=>⟨vs,l.sq,by omega⟩,fun t ht x H' y=>?_⟩
 obtain ⟨rfl,y⟩:=y
 obtain ⟨v,e1,e2⟩:=q.get ht
 have:=y vs l.sq
 rw [e1] at this
 cases this
 exact ⟨aN.refl _,e2⟩
theorem PL {K:KFr} {a:Addr} {ts:List T}:Wk K (Zb K a) [(.tup ts,.ref a)] ts:=fun H A hA h i=>by
 have h:=h _ c6
 simp only [At] at h
 obtain ⟨b,vs,e,l,q⟩:=h
 cases e
 have hl:=q.length
 refine ⟨fun hi=>⟨vs,vs[i]'(by omega),l,by simp⟩,fun hi=>⟨vs,l,by omega⟩,fun t ht x H' y=>?_⟩
 obtain ⟨rfl,y⟩:=y
 obtain ⟨v,e1,e2⟩:=q.get ht
 have:=y vs l
 rw [e1] at this
 cases this
 exact ⟨aN.refl _,e2⟩
theorem PM {K:KFr} {z:Str}:Wk K (X4 z) [] (z.cps.toList.map fun c=>T.str ⟨#[c]⟩):=fun H A hA h i=>by
 refine ⟨fun hi=>by rw [cU,Sz] at hi; exact hi,fun hi=>by rw [cU,Sz] at hi; exact Nat.le_of_eq hi,fun t ht x H' y=>?_⟩
 obtain ⟨rfl,c,hc,rfl⟩:=y
 rw [i4,Array.getElem?_toList,hc] at ht
 cases ht
 exact ⟨aN.refl _,cP⟩
theorem eU {l:Expr} {f:FE} (h:VE X Z l f):VI X Z tg l (Z0 f):=.mk fun tm=>PI.weak (PK (h tm)) fun σ H R ⟨ρ,O,q,I,hf,k⟩=>⟨ρ,O,_,I,hf,fun t ht v H' s a=>by
 split at ht
 · have a0:=a
   simp only [At] at a
   obtain ⟨p,vs,rfl,l,_⟩:=a
   exact .inl ⟨p,rfl,⟨vs,l.sq⟩,k _ ht _ H' _ s (fun p hp=>by rw [kZ.mp hp]; exact a0) JU⟩
 · have a0:=a
   simp only [At] at a
   obtain ⟨p,vs,rfl,l,_⟩:=a
   exact .inr (.inl ⟨p,rfl,⟨vs,l⟩,k _ ht _ H' _ s (fun p hp=>by rw [kZ.mp hp]; exact a0) PL⟩)
 · have e:=a
   simp only [At] at e
   exact .inr (.inr ⟨_,e,k _ ht _ H' [] s (fun p hp=>nomatch hp) PM⟩)
 · exact ht.elim⟩
def rangeT (lo:Int) (n:Nat):List T:=(List.range n).map fun i=>T.int (lo+((i:Nat):Int))
theorem vM {K:KFr} {lo:Int} {n:Nat}:Wk K (TF lo n) [] (rangeT lo n):=fun H A hA h i=>by
 unfold rangeT
 refine ⟨fun hi=>by rw [cU,Th] at hi; exact hi,fun hi=>by rw [cU,Th] at hi; exact Nat.le_of_eq hi,fun t ht x H' y=>?_⟩
 obtain ⟨rfl,rfl⟩:=y
 rw [i4] at ht
 cases e:(List.range n)[i]? with
 | none=>rw [e] at ht; cases ht
 | some j =>
   rw [e] at ht
   have hj:j=i:=by
    have:=fG.mp e
    obtain ⟨h1,h2⟩:=this
    simpa using h2.symm
   subst hj
   cases ht
   exact ⟨aN.refl _,bb⟩
def pR1 (ts:List T) (Q:List T→Prop):Prop:=match ts with
 | [.int j]=>-(2 ^ 62)≤j∧j < 2 ^ 62∧Q (rangeT 0 j.toNat)
 | _=>False
def pR2 (ts:List T) (Q:List T→Prop):Prop:=match ts with
 | [.int i,.int j]=>(-(2 ^ 62)≤i∧i < 2 ^ 62∧-(2 ^ 62)≤j∧j < 2 ^ 62)∧Q (rangeT i (j - i).toNat)
 | _=>False
def EO (g:FA) (p:List T→(List T→Prop)→Prop):FI:=fun ρ Q=>g ρ fun ts=>p ts Q
theorem i_ {a:Expr} {g:FE} {p pos:Pos} (hg:Gl X "range") (hm:X.mg "range" = none) (ha:VR X Z a g) (hs:starEach [a] X.env=[(false,eval a X.env)]:=by rfl) :
  VI X Z tg (.Call (.Name "range" p) [a] [] pos) (EO (jB g yD) pR1):=.mk fun tm=>PI.weak (BJ hg hm ((aE ha aQ hs) tm) hs) fun σ H R ⟨ρ,O,q,I,hf,k⟩=>⟨ρ,O,_,I,hf,fun ts eL vs H' s a=>by
 unfold pR1 at eL
 split at eL
 · obtain ⟨v,rfl,a1⟩:=cS a
   exact ⟨_,by rw [a1.int],eL.1,eL.2.1,k _ eL.2.2 _ H' [] s (fun p hp=>nomatch hp) vM⟩
 · exact eL.elim⟩
theorem B4 {a b:Expr} {g h:FE} {p pos:Pos} (hg:Gl X "range") (hm:X.mg "range" = none) (ha:VR X Z a g) (hb:VR X Z b h) (hs:starEach [a,b] X.env=[(false,eval a X.env),(false,eval b X.env)]:=by rfl) (rn:starEach [b] X.env=[(false,eval b X.env)]:=by rfl) :
  VI X Z tg (.Call (.Name "range" p) [a,b] [] pos) (EO (jB g (jB h yD)) pR2):=.mk fun tm=>PI.weak (BK hg hm ((aE ha (aE hb aQ rn) (by rw [hs,rn])) tm) hs rn) fun σ H R ⟨ρ,O,q,I,hf,k⟩=>⟨ρ,O,_,I,hf,fun ts eL vs H' s a=>by
 unfold pR2 at eL
 split at eL
 · obtain ⟨v,w,rfl,a1,b1⟩:=JS a
   exact ⟨_,_,by rw [a1.int,b1.int],eL.1,k _ eL.2 _ H' [] s (fun p hp=>nomatch hp) vM⟩
 · exact eL.elim⟩
abbrev FG:=T→En→(En→Prop)→Prop
abbrev JV:=List T→En→(En→Prop)→Prop
def lG (X:Cx) (Z:Zc) (tm:List (T×V)) (is:List Nat) (h:FG):TG:=fun v σ H Q=>∃ ρ O t q,ax X.K Z tm O ρ σ H∧At X.K H (av Z O) t v∧h t ρ q∧∀ ρ',q ρ'→∀ O' σ',ax X.K Z tm O' ρ' σ' H→(∀ a∈roots O',a∈roots O)→(∀ (j:Nat),j∉is→O'[j]?=O[j]?)→σ'.length=σ.length→(∀ (j:Nat),j∉is→σ'[j]?=σ[j]?)→Q σ' H
def lGs (X:Cx) (Z:Zc) (tm:List (T×V)) (is:List Nat) (h:JV):Jb:=fun vs σ H Q=>∃ ρ O ts q,ax X.K Z tm O ρ σ H∧az X.K H (av Z O) ts vs∧h ts ρ q∧∀ ρ',q ρ'→∀ O' σ',ax X.K Z tm O' ρ' σ' H→(∀ a∈roots O',a∈roots O)→(∀ (j:Nat),j∉is→O'[j]?=O[j]?)→σ'.length=σ.length→(∀ (j:Nat),j∉is→σ'[j]?=σ[j]?)→Q σ' H
def VG (X:Cx) (Z:Zc) (tg:Expr) (is:List Nat) (h:FG):Prop:=Bx fun tm=>PG X tg (lG X Z tm is h)
instance {X:Cx} {Z:Zc} {tg:Expr} {is:List Nat} {h:FG}:CoeFun (VG X Z tg is h) fun _=>∀ tm,PG X tg (lG X Z tm is h):=⟨fun h=>Bx.h h⟩
def UL (X:Cx) (Z:Zc) (X8:List Expr) (is:List Nat) (h:JV):Prop:=Bx fun tm=>Ec X X8 (lGs X Z tm is h)
instance {X:Cx} {Z:Zc} {X8:List Expr} {is:List Nat} {h:JV}:CoeFun (UL X Z X8 is h) fun _=>∀ tm,Ec X X8 (lGs X Z tm is h):=⟨fun h=>Bx.h h⟩
def hName (i:Nat):FG:=fun t ρ Q=>Q (ρ.set i (some (t,false)))
theorem bB {i:Nat} {x:Str} {pos:Pos} (hN:X.N.Nodup) (hi:X.N[i]?=some x) (hx:Loc X.env.scope x) (hp:br Z i) (hf:X.fn x=true∨X.env.scope.names.lookup x=some .local:=by first | exact .inl rfl | exact .inr rfl | assumption) :
  VG X Z (.Name x pos) [i] (hName i):=.mk fun tm=>PG.weak (Jc hN hi hx hf) fun v σ H Q ⟨ρ,O,t,q,I,a,h,k⟩ =>
 k _ h _ _ (I.put hp a) (bF i) (fun j hj=>rf (fun e=>hj (by simp [e]))) (by simp) fun j hj=>rf (fun e=>hj (by simp [e]))
def Z1:JV:=fun ts ρ Q=>ts=[]∧Q ρ
def Nf (h:FG) (hs:JV):JV:=fun ts ρ Q=>match ts with
 | t :: r=>h t ρ fun ρ'=>hs r ρ' Q
 | []=>False
def UM (n:Nat) (h:JV):FG:=fun t ρ Q=>match t with
 | .tup ts=>ts.length=n∧h ts ρ Q
 | _=>False
theorem nI:UL X Z [] [] Z1:=.mk fun tm=>Ec.weak Jd fun vs σ H Q ⟨ρ,O,ts,q,I,a,h,k⟩=>by
 obtain ⟨rfl,h⟩:=h
 have e:vs=[]:=by simpa only [az] using a
 exact ⟨e,k _ h O σ I (fun _ z=>z) (fun _ _=>rfl) rfl fun _ _=>rfl⟩
theorem d9 {e:Expr} {es:List Expr} {is js:List Nat} {h:FG} {hs:JV} (h1:VG X Z e is h) (h2:UL X Z es js hs)
  (hse:(assignEach (e :: es) X.env).map (·.2)=assign e X.env :: (assignEach es X.env).map (·.2):=by rfl):UL X Z (e :: es) (is ++ js) (Nf h hs):=.mk fun tm=>Ec.weak (Ed (h1 tm) (h2 tm) hse) fun vs σ H Q ⟨ρ,O,ts,q,I,a,hh,k⟩=>by
 unfold Nf at hh
 split at hh
 · simp only [az] at a
   obtain ⟨v,r,rfl,a1,a2⟩:=a
   refine ⟨v,r,rfl,ρ,O,_,_,I,a1,hh,fun ρ' hρ O' σ' I' ro eo l e=>⟨ρ',O',_,q,I',a2.aX fun b hb=>?_,hρ,fun ρ2 h2 O2 σ2 I2 ro2 eo2 l2 e2=>k ρ2 h2 O2 σ2 I2 (fun a z=>ro a (ro2 a z)) (fun j hj=>?_) (l2.trans l) fun j hj=>?_⟩⟩
   · rcases cA.mp hb with z | z
     · exact cq _ (ro b z)
     · exact bO _ z
   · rw [cA,not_or] at hj
     exact (eo2 j hj.2).trans (eo j hj.1)
   · rw [cA,not_or] at hj
     exact (e2 j hj.2).trans (e j hj.1)
 · exact hh.elim
theorem sV {es:List Expr} {k:Nat} {is:List Nat} {h:JV} {n:Nat} {pos:Pos} (hc:X.calm=true) (hh:UL X Z es is h)
  (hn:(assignEach es X.env).length=n:=by rfl) (Y_:(assignEach es X.env).findIdx? (·.1)=none:=by rfl):VG X Z (.Tuple es k pos) is (UM n h):=.mk fun tm=>PG.weak (OI hc (hh tm) hn Y_) fun v σ H Q ⟨ρ,O,t,q,I,a,h',kk⟩=>by
 unfold UM at h'
 split at h'
 · simp only [At] at a
   obtain ⟨p,vs,rfl,s,a⟩:=a
   exact ⟨p,vs,rfl,s,a.length.trans h'.1,ρ,O,_,q,I,a,h'.2,kk⟩
 · exact h'.elim
def mK (ts:List T) (h:FG) (g:FS):FS:=fun d ρ=>∃ Pv:Nat→En→Prop,Pv 0 ρ∧(∀ (i:Nat) t ρ',ts[i]?=some t→Pv i ρ'→h t ρ' fun ρ2=>g { nx:=Pv (i+1),ct:=Pv (i+1),bk:=d.nx,rt:=d.rt } ρ2)∧∀ ρ',Pv ts.length ρ'→d.nx ρ'
def Z2 (f:FI) (h:FG) (g:FS):FS:=fun d ρ=>f ρ fun ts=>mK ts h g d ρ
theorem gb {iter:Expr} {body:List Stmt} {f:FI} {is:List Nat} {h:FG} {g:FS} {pos:Pos} (hp:PassesOwn (model X.prog X.w) X.A X.env X.xe) (hc:X.calm=true) (hi:VI X Z tg iter f) (hg:VG X Z tg is h) (hb:m8 X Z body g)
  (hs:∀ x,foldedSetIterable iter X.env x=pure x:=by intro _; rfl):VS X Z (.For tg iter body [] pos) (Z2 f h g):=by
 refine .mk fun tm pins s σ H D I0 hw=>?_
 obtain ⟨ρ,O,d,I,q,F⟩:=hw
 refine OM (wi:=lI X Z tm f) (g:=fun v σ H Q=>∃ bW,lG X Z (bW ++ tm) is h v σ H Q) (tb:=fun D σ H=>∃ bW,lS X Z (bW ++ tm) g D σ H) hp hc (hi tm) (fun pins s σ H v u Q I r ⟨bW,z⟩=>hg (bW ++ tm) pins s σ H v u Q I r z) (fun pins s σ H D I ⟨bW,z⟩=>hb (bW ++ tm) pins s σ H D I z) hs pins s σ H D I0 ?_
 refine ⟨ρ,O,_,I,q,fun ts eL J H' bW s a wk=>?_⟩
 obtain ⟨Pv,p0,step,fin⟩:=eL
 have J0:ax X.K Z (bW ++ tm) O ρ σ H':=(I.same s).vL fun p hp=>by
  rcases cA.mp hp with z | z
  · exact a p z
  · exact (I.same s).m6 p z
 refine ⟨fun i m σ H=>m=ts.length - i∧i≤ts.length∧∃ ρ O,ax X.K Z (bW ++ tm) O ρ σ H∧Pv i ρ,⟨ts.length,by simp,jw _,ρ,O,J0,p0⟩,?_⟩
 rintro i m σ1 H1 ⟨rfl,hi,ρ1,O1,I1,p1⟩
 obtain ⟨w1,w2,w3⟩:=wk H1 (av Z O1) I1.xZ (fun p hp=>I1.m6 p (cq _ hp)) i
 have un:∀ {O:List (Option Addr)} {ρ:En} {σ:St} {H:Hp},ax X.K Z (bW ++ tm) O ρ σ H→ax X.K Z tm O ρ σ H:=fun I=>I.vL fun p hp=>I.m6 p (bO _ hp)
 by_cases il:i < ts.length
 · refine .inr ⟨w1 il,fun σ' H'=>∃ ρ O,ax X.K Z (bW ++ tm) O ρ σ' H'∧Pv (i+1) ρ,fun σ' H' ⟨ρ',O',I',p'⟩=>⟨ts.length - (i+1),by omega,rfl,il,ρ',O',I',p'⟩,fun x H2 y=>?_⟩
   have e:ts[i]?=some ts[i]:=by simp [il]
   obtain ⟨s2,a2⟩:=w3 ts[i] e x H2 y
   refine ⟨bW,ρ1,O1,ts[i],_,I1.same s2,a2,step i _ ρ1 e p1,fun ρ2 h2 O2 σ2 I2 _ _ _ _=>⟨bW,ρ2,O2,_,I2,h2,?_⟩⟩
   exact ⟨fun O ρ σ H I p=>⟨ρ,O,I,p⟩,fun O ρ σ H r v z p=>F.rt O ρ σ H r v z.vL p,fun O ρ σ H I p=>F.nx O ρ σ H (un I) p,fun O ρ σ H I p=>⟨ρ,O,I,p⟩⟩
 · have e:i=ts.length:=by omega
   subst e
   exact .inl ⟨w2 (rfl),F.nx O1 ρ1 σ1 H1 (un I1) (fin ρ1 p1)⟩
end
theorem dU (O:List (Option Addr)) (n:Nat):roots (O ++ List.replicate n none)=roots O:=by
 unfold roots
 rw [List.filterMap_append]
 have:(List.replicate n (none:Option Addr)).filterMap id=[]:=by
  induction n with
  | zero=>rfl
  | succ n ih=>rw [Ao,mx]; exact ih
 rw [this,IC]
theorem ax.longer {K:KFr} {Z:Zc} {tm:List (T×V)} {O:List (Option Addr)} {ρ:En} {σ:St} {H:Hp} (I:ax K Z tm O ρ σ H) (n:Nat) {τ:St} (hτ:τ.length=n) :
  ax K Z tm (O ++ List.replicate n none) (ρ ++ List.replicate n none) (σ ++ τ) H:=by
 have ea:av Z (O ++ List.replicate n none)=av Z O:=by unfold av; rw [dU]
 refine ⟨by simp [I.lσ,hτ],by simp [I.lO],fun i e h=>?_,by rw [dU]; exact I.nd,fun a h=>I.own a (by rw [dU] at h; exact h),fun p hp=>?_,I.ox,I.keep,fun p hp=>by rw [ea]; exact I.m6 p hp⟩
 · rw [ea]
   by_cases hi:i < ρ.length
   · rw [qh hi] at h
     obtain ⟨o,s,h1,h2,h3⟩:=I.sl i e h
     exact ⟨o,s,by rw [qh (by rw [I.lO]; exact hi)]; exact h1,by rw [qh (by rw [I.lσ]; exact hi)]; exact h2,h3⟩
   · rw [uX (by omega),BB] at h
     split at h
     · rename_i hl
       cases h
       refine ⟨none,τ[i - σ.length]'(by rw [I.lσ,hτ]; exact hl),?_,?_,rfl⟩
       · rw [uX (by rw [I.lO]; omega),BB,if_pos (by rw [I.lO]; exact hl)]
       · rw [uX (by rw [I.lσ]; omega)]; simp
     · cases h
 · have:=I.par p hp
   have hl:=(fG.mp this).1
   rw [qh hl]; exact this
theorem ax.PN {K:KFr} {Z:Zc} {tm:List (T×V)} {O:List (Option Addr)} {ρ:En} {σ:St} {H:Hp} {a:Addr} {u o:HO} (I:ax K (Z.ex a) tm O ρ σ H) (hu:H a=some u) (hm:jK u=true) (h0:Z.H0 a=none):ax K (Z.ex a) tm O ρ σ (upd H a o):=by
 have JF:a∈av (Z.ex a) O:=bO _ c6
 have nr:∀ b∈roots O,b≠a:=fun b hb e=>(I.own b hb).2.1 (by rw [e]; exact c6)
 refine ⟨I.lσ,I.lO,fun i e h=>?_,I.nd,fun b hb=>?_,I.par,fun b hb=>?_,fun b o' e n=>?_,fun p hp=>(I.m6 p hp).wrote JF hu hm⟩
 · obtain ⟨o',s,h1,h2,h3⟩:=I.sl i e h
   refine ⟨o',s,h1,h2,h3.map (fun _ _ q=>q.wrote JF hu hm) fun b t e q=>?_⟩
   subst e
   exact q.map (aA (nr b (aK.mpr (ik h1)))) fun _ _ z=>z.wrote JF hu hm
 · obtain ⟨q1,q2,v,e,m⟩:=I.own b hb
   exact ⟨q1,q2,v,by rw [aA (nr b hb)]; exact e,m⟩
 · by_cases e:b=a
   · subst e; rw [aI]; simp
   · rw [aA e]; exact I.ox b hb
 · have:b≠a:=fun e'=>by
    subst e'
    have e2:Z.H0 b=some o':=e
    rw [h0] at e2; cases e2
   rw [aA this]; exact I.keep b o' e n
def cx (h:FG) (fc:FB) (fe:FE) (ρ:En):List T→(List T→Prop)→Prop
 | [],Q=>Q []
 | t :: ts,Q=>h t ρ fun ρ2=>fc ρ2 fun b=>if b=true then fe ρ2 fun u=>cx h fc fe ρ ts fun us=>Q (u :: us) else cx h fc fe ρ ts Q
def AL (n:Nat) (is:List Nat) (f:FI) (h:FG) (fc:FB) (fe:FE):FP:=fun ρ Q=>(is.all fun j=>decide (ρ.length≤j))=true∧f ρ fun ts=>ts.length≤sizeLine∧cx h fc fe (ρ ++ List.replicate n none) ts fun us=>Q (.fr (.lst us))
def SN (X:Cx) (Z:Zc) (ifs:List Expr) (f:FB):Prop:=Bx fun tm=>EB X ifs (lB X Z tm f)
instance {X:Cx} {Z:Zc} {ifs:List Expr} {f:FB}:CoeFun (SN X Z ifs f) fun _=>∀ tm,EB X ifs (lB X Z tm f):=⟨fun h=>Bx.h h⟩
def B5:FB:=fun _ Q=>Q true
theorem EB.weak {X:Cx} {e:List Expr} {t t':TT} (h:EB X e t) (hw:∀ σ H Q,t' σ H Q→t σ H Q):EB X e t':=fun pins s σ H Q I q=>h pins s σ H Q I (hw _ _ _ q)
section
variable {X:Cx} {Z:Zc}
theorem eI:SN X Z [] B5:=.mk fun tm=>EB.weak Jw fun σ H Q ⟨ρ,O,q,I,h,k⟩=>k true h H (aN.refl H)
theorem JW {c:Expr} {f:FB} (h:VC X Z c f):SN X Z [c] f:=.mk fun tm=>Jx (h tm)
def cG (X:Cx) (Z:Zc) (tm:List (T×V)) (is:List Nat) (h:FG):TG:=fun v σ H Q=>∃ D bW,lG X (Z.ex D) (bW ++ tm) is h v σ H Q
def cB (X:Cx) (Z:Zc) (tm:List (T×V)) (f:FB):TT:=fun σ H Q=>∃ D bW,lB X (Z.ex D) (bW ++ tm) f σ H Q
def cE (X:Cx) (Z:Zc) (tm:List (T×V)) (f:FE):TE:=fun σ H Q=>∃ D bW,lE X (Z.ex D) (bW ++ tm) f σ H Q
theorem PQ {K:KFr} {Z:Zc} {tm bW:List (T×V)} {n:Nat} {O:List (Option Addr)} {ρ:En} {σ:St} {H1:Hp} {D:Addr} {J:It} {ts:List T} {h:FG} {fc:FB} {fe:FE} {is:List Nat} {q:Rt→Prop} {Q:VK} (X:Cx) (hK:X.K=K)
  (I:ax K Z (bW ++ tm) O ρ σ H1) (hD:H1 D=none) (wk:Wk K J bW ts) (hz:ts.length≤sizeLine) (X9:∀ j∈is,ρ.length≤j)
  (hw:cx h fc fe (ρ ++ List.replicate n none) ts fun us=>q (.fr (.lst us)))
  (k:∀ r,q r→∀ v H',aN H1 H'→fD K Z tm O ρ σ H' r v→Q v H') :
  EC J (cG X Z tm is h) (cB X Z tm fc) (cE X Z tm fe) n σ D (Q (.ref D)) H1:=by
 subst hK
 obtain ⟨n1,n2,n3⟩:=I.fresh hD
 refine ⟨fun i m acc H2=>m=ts.length - i∧i≤ts.length∧aN H1 H2∧H2 D=some (.lst acc)∧∃ us,az X.K H2 (av (Z.ex D) O) us acc∧acc.length≤i∧ax X.K (Z.ex D) (bW ++ tm) O ρ σ H2∧cx h fc fe (ρ ++ List.replicate n none) (ts.drop i) fun r=>q (.fr (.lst (us ++ r))),
  ⟨ts.length,by simp,jw _,aG hD,aI,[],az.nil,jw _,I.new hD rfl,by simpa using hw⟩,?_⟩
 rintro i m acc H2 ⟨rfl,hi,s2,X_,us,a2,hl,I2,w2⟩
 refine ⟨X_,?_⟩
 obtain ⟨w1,w2',w3⟩:=wk H2 (av (Z.ex D) O) I2.xZ (fun p hp=>I2.m6 p (cq _ hp)) i
 by_cases il:i < ts.length
 · refine .inr ⟨w1 il,by omega,fun x H3 y=>?_⟩
   have e:ts[i]?=some ts[i]:=by simp [il]
   obtain ⟨s3,a3⟩:=w3 ts[i] e x H3 y
   rw [YG il] at w2
   have I3:=(I2.same s3).longer n (τ:=List.replicate n none) (by simp)
   have ea:av (Z.ex D) (O ++ List.replicate n none)=av (Z.ex D) O:=by unfold av; rw [dU]
   refine ⟨D,bW,_,_,ts[i],_,I3,by rw [ea]; exact a3,w2,fun ρ4 hρ4 O4 σ4 I4 ro4 eo4 l4 e4=>⟨⟨?_,fun j v hj=>?_⟩,D,bW,ρ4,O4,_,I4,hρ4,fun b hb H5 s5=>?_⟩⟩
   · rw [l4]; simp
   · have Ng:=(fG.mp hj).1
     have:j∉is:=fun z=>by have:=X9 j z; have:=I.lσ; omega
     rw [e4 j this,qh Ng]; exact hj
   · have S5:=(s2.trans s3).trans s5
     have J5:=(I2.same s3).same s5
     cases b with
     | true =>
       rw [if_pos rfl] at hb
       refine Pg ⟨D,bW,ρ4,O4,_,I4.same s5,hb,fun u hu y H6 s6 a6=>?_⟩
       have Z3:=s6 _ _ (s5 _ _ (s3 _ _ X_))
       refine ⟨Z3,ts.length - (i+1),by omega,rfl,il,fun b o e=>?_,aI,us ++ [u],?_,by simp; omega,(J5.same s6).PN Z3 rfl n3,?_⟩
       · rw [aA (a9 e hD)]; exact s6 _ _ (S5 _ _ e)
       · have JF:D∈av (Z.ex D) O:=bO _ c6
         have a6':At X.K H6 (av (Z.ex D) O) u y:=a6.aX fun b hb=>by
          rcases cA.mp hb with z | z
          · obtain ⟨j,hj⟩:=YE.mp (aK.mp z)
            have Ng:=(fG.mp hj).1
            have nj:j∉is:=fun z=>by have:=X9 j z; have:=I.lO; omega
            have:=eo4 j nj
            rw [qh Ng,hj] at this
            exact cq _ (aK.mpr (ik this))
          · exact bO _ z
         exact az.wrote JF Z3 rfl ((((a2.same s3).same s5).same s6).append (az.cons a6' az.nil))
       · have e2:∀ r,(us ++ [u]) ++ r=us ++ (u :: r):=fun r=>by simp
         simp only [e2]
         exact hu
     | false =>
       rw [if_neg eC] at hb
       exact Pf ⟨ts.length - (i+1),by omega,rfl,il,S5,s5 _ _ (s3 _ _ X_),us,(a2.same s3).same s5,by omega,J5,hb⟩
 · have e:i=ts.length:=by omega
   subst e
   refine .inl ⟨w2' (rfl),?_⟩
   rw [List.drop_length] at w2
   simp only [cx,IC] at w2
   refine k _ w2 _ H2 s2 ⟨D,rfl,I2.vL fun p hp=>I2.m6 p (bO _ hp),⟨acc,X_,a2⟩,n3,n2⟩
theorem AN {tm:List (T×V)} {n:Nat} {is:List Nat} {f:FI} {h:FG} {fc:FB} {fe:FE} {σ:St} {H:Hp} {Q:VK} (hq:lP X Z tm (AL n is f h fc fe) σ H Q):ED n (lI X Z tm f) (cG X Z tm is h) (cB X Z tm fc) (cE X Z tm fe) σ H Q:=by
 obtain ⟨ρ,O,q,I,⟨X9,hf⟩,k⟩:=hq
 refine ⟨ρ,O,_,I,hf,fun ts eL J H' bW s a wk D hD=>?_⟩
 have I':ax X.K Z (bW ++ tm) O ρ σ H':=(I.same s).vL fun p hp=>by
  rcases cA.mp hp with z | z
  · exact a p z
  · exact (I.same s).m6 p z
 refine PQ X rfl I' hD wk eL.1 (fun j hj=>?_) eL.2 fun r hr v H2 s2 z=>k r hr v H2 (s.trans s2) z
 have:=Oi.mp X9 j hj
 exact of_decide_eq_true this
variable {ts:List Str} {sc:Scope} {elt iter tg:Expr} {ifs:List Expr} {pos:Pos} {f:FI} {h:FG} {fc:FB} {fe:FE} {is:List Nat}
theorem fO (hc:X.calm=true) (hS:jJ X.N ts X.env.scope sc=true) (hi:VI X Z tg iter f) (hg:∀ D cl C fp s H,VG (bC X ts sc cl C fp s H) (Z.ex D) tg is h) (ht:∀ D cl C fp s H,SN (bC X ts sc cl C fp s H) (Z.ex D) ifs fc)
  (he:∀ D cl C fp s H,VE (bC X ts sc cl C fp s H) (Z.ex D) elt fe) (hs:∀ x,foldedSetIterable iter X.env x=pure x:=by intro _; rfl):VP X Z (.ListComp elt [⟨tg,iter,ifs,0⟩] sc pos) (AL ts.length is f h fc fe):=.mk fun tm =>
 PE.weak (Jz hc hS (hi tm) (fun cl C fp s H pins s' σ H' v u Q I r ⟨D,bW,z⟩=>hg D cl C fp s H (bW ++ tm) pins s' σ H' v u Q I r z) (fun cl C fp s H pins s' σ H' Q I ⟨D,bW,z⟩=>ht D cl C fp s H (bW ++ tm) pins s' σ H' Q I z)
  (fun cl C fp s H pins s' σ H' Q I ⟨D,bW,z⟩=>he D cl C fp s H (bW ++ tm) pins s' σ H' Q I z) hs) fun σ H Q hq=>AN hq
theorem vN {i:Nat} {y:Str} {py vF:Pos} (hN:X.N.Nodup) (hy:X.N[i]?=some y) (hx:Loc X.env.scope y) (hc:X.calm=true) (hS:jJ X.N ts X.env.scope sc=true) (hi:VI X Z tg iter f) (hg:∀ D cl C fp s H,VG (bC X ts sc cl C fp s H) (Z.ex D) tg is h)
  (ht:∀ D cl C fp s H,SN (bC X ts sc cl C fp s H) (Z.ex D) ifs fc) (he:∀ D cl C fp s H,VE (bC X ts sc cl C fp s H) (Z.ex D) elt fe)
  (JB:swapsWith (.ListComp elt [⟨tg,iter,ifs,0⟩] sc pos) (some (.Name y py)) vF.line X.env=pure true)
  (hs:∀ x,foldedSetIterable iter X.env x=pure x) (hf:X.fn y=true∨X.env.scope.names.lookup y=some .local) (tm:List (T×V)) :
  PS X (.Assign [.Name y py] (.ListComp elt [⟨tg,iter,ifs,0⟩] sc pos) vF) (Je (lP X Z tm (AL ts.length is f h fc fe)) (jx i)) :=
 PS.weak (JA hN hy hx hc hS (hi tm) (fun cl C fp s H pins s' σ H' v u Q I r ⟨D,bW,z⟩=>hg D cl C fp s H (bW ++ tm) pins s' σ H' v u Q I r z) (fun cl C fp s H pins s' σ H' Q I ⟨D,bW,z⟩=>ht D cl C fp s H (bW ++ tm) pins s' σ H' Q I z)
  (fun cl C fp s H pins s' σ H' Q I ⟨D,bW,z⟩=>he D cl C fp s H (bW ++ tm) pins s' σ H' Q I z) JB hs hf) fun D σ H hq=>AN hq
theorem AO {i:Nat} {y:Str} {py vF:Pos} (hN:X.N.Nodup) (hy:X.N[i]?=some y) (hx:Loc X.env.scope y) (hc:X.calm=true) (hS:jJ X.N ts X.env.scope sc=true) (hi:VI X Z tg iter f) (hg:∀ D cl C fp s H,VG (bC X ts sc cl C fp s H) (Z.ex D) tg is h)
  (ht:∀ D cl C fp s H,SN (bC X ts sc cl C fp s H) (Z.ex D) ifs fc) (he:∀ D cl C fp s H,VE (bC X ts sc cl C fp s H) (Z.ex D) elt fe) (hp:br Z i)
  (JB:swapsWith (.ListComp elt [⟨tg,iter,ifs,0⟩] sc pos) (some (.Name y py)) vF.line X.env=pure true:=by rfl)
  (hs:∀ x,foldedSetIterable iter X.env x=pure x:=by intro _; rfl) (hf:X.fn y=true∨X.env.scope.names.lookup y=some .local:=by first | exact .inl rfl | exact .inr rfl | assumption) :
  VS X Z (.Assign [.Name y py] (.ListComp elt [⟨tg,iter,ifs,0⟩] sc pos) vF) (UJ i (fX (AL ts.length is f h fc fe))):=.mk fun tm =>
 PS.weak (vN hN hy hx hc hS hi hg ht he JB hs hf tm) fun D σ H ⟨ρ,O,d,I,q,F⟩=>⟨ρ,O,_,I,q,fun r hr v H' s z=>F.nx _ _ _ H' (z.env.put hp z.at) hr⟩
theorem rK {h:FG} {fc:FB} {fe:FE} {ρ:En} {ts:List T} {Q:List T→Prop} (p:T→Bool) (u:T→T) (step:∀ t∈ts,∀ k:List T→Prop,∀ r:List T→Prop,(if p t=true then r [u t] else r [])→h t ρ fun ρ2=>fc ρ2 fun b=>if b=true then fe ρ2 fun x=>r [x] else r [])
  (hq:Q ((ts.filter p).map u)):cx h fc fe ρ ts Q:=by
 induction ts generalizing Q with
 | nil=>exact hq
 | cons t ts ih =>
   have st:=step t c6 (fun _=>True) (fun l=>match l with
    | [x]=>cx h fc fe ρ ts fun us=>Q (x :: us)
    | _=>cx h fc fe ρ ts Q)
   have rest:∀ {Q':List T→Prop},Q' ((ts.filter p).map u)→cx h fc fe ρ ts Q':=fun hq=>ih (fun t ht=>step t (eB _ ht)) hq
   simp only [cx]
   refine st ?_
   by_cases hp:p t=true
   · rw [if_pos hp]
     refine rest ?_
     rw [YJ hp] at hq
     exact hq
   · rw [if_neg hp]
     refine rest ?_
     rw [List.filter_cons_of_neg hp] at hq
     exact hq
end
def gR (K:KFr) (H:Hp) (A:List Addr):List Bool→List Addr→List T→List V→Prop
 | [],as,ts,vs=>as=[]∧ts=[]∧vs=[]
 | false :: fs,as,ts,vs=>∃ t lp v kc,ts=t :: lp∧vs=v :: kc∧At K H A t v∧gR K H A fs as lp kc
 | true :: fs,as,ts,vs=>∃ a JX t lp kc,as=a :: JX∧ts=t :: lp∧vs = .ref a :: kc∧cC K H A a t∧gR K H A fs JX lp kc
def Z4 (K:KFr) (H:Hp) (as Ox:List Addr) (H':Hp) (us:List T):Rt→V→Prop
 | .vw t,v=>At K H' (as ++ Ox) t v∧Paired (fun a u=>cC K H' (as ++ Ox) a u) as us
 | .fr t,v=>∃ b,v = .ref b∧H b=none∧b∉as∧cC K H' (b :: (as ++ Ox)) b t∧Paired (fun a u=>cC K H' (b :: (as ++ Ox)) a u) as us
abbrev GT:=List T→(List T→Rt→Prop)→Prop
def PR (K:KFr) (fs:List Bool) (G:GT):Sp:=fun vs H Q _=>∃ ts as Ox q,as.Nodup∧(∀ a∈as,a∉Ox)∧(∀ a∈Ox,H a≠none)∧gR K H (as ++ Ox) fs as ts vs∧G ts q ∧
 ∀ us r,q us r→∀ v H',(∀ b o,H b=some o→b∉as→H' b=some o)→Z4 K H as Ox H' us r v→Q v H'
def ro:List Bool→List Addr→List (Option Addr)
 | [],_=>[]
 | false :: fs,as=>none :: ro fs as
 | true :: fs,a :: as=>some a :: ro fs as
 | true :: fs,[]=>none :: ro fs []
def pz:List Bool→List Addr→Nat→List (Nat×Addr)
 | [],_,_=>[]
 | false :: fs,as,k=>pz fs as (k+1)
 | true :: fs,a :: as,k=>(k,a) :: pz fs as (k+1)
 | true :: fs,[],k=>pz fs [] (k+1)
def x3:List Bool→List T→En
 | f :: fs,t :: ts=>some (t,f) :: x3 fs ts
 | _,_=>[]
def oA:List Bool→En→List T
 | [],_=>[]
 | false :: fs,ρ=>oA fs ρ.tail
 | true :: fs,some (t,_) :: ρ=>t :: oA fs ρ
 | true :: fs,ρ=>.aT :: oA fs ρ.tail
section
variable {K:KFr} {H:Hp} {A:List Addr}
theorem ke:∀ {fs:List Bool} {as:List Addr} {ts:List T} {vs:List V},gR K H A fs as ts vs→ts.length=fs.length∧vs.length=fs.length∧(ro fs as).length=fs.length∧(x3 fs ts).length=fs.length∧roots (ro fs as)=as
 | [],as,ts,vs,h=>by obtain ⟨rfl,rfl,rfl⟩:=h; exact ⟨rfl,rfl,rfl,rfl,rfl⟩
 | false :: fs,as,ts,vs,h=>by
   obtain ⟨t,lp,v,kc,rfl,rfl,_,h⟩:=h
   obtain ⟨h1,h2,h3,h4,h5⟩:=ke h
   exact ⟨by simp [h1],by simp [h2],by simp [ro,h3],by simp [x3,h4],by simpa [ro,roots] using h5⟩
 | true :: fs,as,ts,vs,h=>by
   obtain ⟨a,JX,t,lp,kc,rfl,rfl,rfl,_,h⟩:=h
   obtain ⟨h1,h2,h3,h4,h5⟩:=ke h
   refine ⟨by simp [h1],by simp [h2],by simp [ro,h3],by simp [x3,h4],?_⟩
   simp only [ro,roots,mx,id] at h5 ⊢
   rw [h5]
theorem oB:∀ {fs:List Bool} {as:List Addr} {ts:List T} {vs:List V},gR K H A fs as ts vs→∀ (i:Nat) e,(x3 fs ts)[i]?=some e→∃ o s,(ro fs as)[i]?=some o∧(vs.map some)[i]?=some s∧lb K H A e o s
 | [],as,ts,vs,h,i,e,he=>by simp [x3] at he
 | false :: fs,as,ts,vs,h,i,e,he=>by
   obtain ⟨t,lp,v,kc,rfl,rfl,a,h⟩:=h
   cases i with
   | zero=>simp only [x3,YK,Option.some.injEq] at he; subst he; exact ⟨none,some v,rfl,rfl,rfl,v,rfl,a⟩
   | succ i=>exact oB h i e (by simpa [x3] using he)
 | true :: fs,as,ts,vs,h,i,e,he=>by
   obtain ⟨a,JX,t,lp,kc,rfl,rfl,rfl,r,h⟩:=h
   cases i with
   | zero=>simp only [x3,YK,Option.some.injEq] at he; subst he; exact ⟨some a,some (.ref a),rfl,rfl,a,rfl,rfl,r⟩
   | succ i=>exact oB h i e (by simpa [x3] using he)
theorem lr:∀ {fs:List Bool} {as:List Addr} {ts:List T} {vs:List V},gR K H A fs as ts vs→∀ a∈as,∃ t,cC K H A a t
 | [],as,ts,vs,h,a,ha=>by obtain ⟨rfl,rfl,rfl⟩:=h; cases ha
 | false :: fs,as,ts,vs,h,a,ha=>by obtain ⟨t,lp,v,kc,rfl,rfl,_,h⟩:=h; exact lr h a ha
 | true :: fs,as,ts,vs,h,a,ha=>by
   obtain ⟨b,JX,t,lp,kc,rfl,rfl,rfl,r,h⟩:=h
   rcases cY.mp ha with z | z
   · subst z; exact ⟨t,r⟩
   · exact lr h a z
theorem ER:∀ {fs:List Bool} {as:List Addr} {ts:List T} {vs:List V} (k:Nat),gR K H A fs as ts vs→(pz fs as k).map (·.2)=as∧∀ p∈pz fs as k,k≤p.1∧(ro fs as)[p.1 - k]?=some (some p.2)
 | [],as,ts,vs,k,h=>by obtain ⟨rfl,rfl,rfl⟩:=h; exact ⟨rfl,fun _ z=>nomatch z⟩
 | false :: fs,as,ts,vs,k,h=>by
   obtain ⟨t,lp,v,kc,rfl,rfl,_,h⟩:=h
   obtain ⟨h1,h2⟩:=ER (k+1) h
   refine ⟨h1,fun p hp=>?_⟩
   obtain ⟨l,e⟩:=h2 p hp
   refine ⟨by omega,?_⟩
   have:p.1 - k=(p.1 - (k+1))+1:=by omega
   rw [this]
   simpa [ro] using e
 | true :: fs,as,ts,vs,k,h=>by
   obtain ⟨a,JX,t,lp,kc,rfl,rfl,rfl,_,h⟩:=h
   obtain ⟨h1,h2⟩:=ER (k+1) h
   refine ⟨by simp [pz,h1],fun p hp=>?_⟩
   rcases cY.mp hp with z | z
   · subst z; exact ⟨dm _,by simp [ro]⟩
   · obtain ⟨l,e⟩:=h2 p z
     refine ⟨by omega,?_⟩
     have:p.1 - k=(p.1 - (k+1))+1:=by omega
     rw [this]
     simpa [ro] using e
theorem sW {R:Addr→T→Prop} {ρ:En}:∀ {fs:List Bool} {as:List Addr} {ts:List T} {vs:List V} (k:Nat),gR K H A fs as ts vs→(∀ p∈pz fs as k,∃ t,ρ[p.1]?=some (some (t,true))∧R p.2 t)→Paired R as (oA fs (ρ.drop k))
 | [],as,ts,vs,k,h,_=>by obtain ⟨rfl,rfl,rfl⟩:=h; exact .nil
 | false :: fs,as,ts,vs,k,h,q=>by
   obtain ⟨t,lp,v,kc,rfl,rfl,_,h⟩:=h
   have:=sW (k+1) h q
   simp only [oA,List.tail_drop]
   exact this
 | true :: fs,as,ts,vs,k,h,q=>by
   obtain ⟨a,JX,t,lp,kc,rfl,rfl,rfl,_,h⟩:=h
   have:=sW (ρ:=ρ) (k+1) h fun p hp=>q p (eB _ hp)
   obtain ⟨u,e,r⟩:=q (k,a) c6
   have hk:k < ρ.length:=(fG.mp e).1
   have e2:ρ[k]=some (u,true):=by rw [qe hk] at e; exact Option.some.inj e
   rw [YG hk,e2]
   exact .cons r this
end
section
variable {P:Program} {w:World} {K:KFr} {mg:Str→Option Value} {base:Heap}
theorem fnV {x qual:Str} {st:Stmt} {f:Addr} {fd:FuncData} {N ps:List Str} {k:Nat} {fs:List Bool} {G:GT} (F:AE K x qual st f fd) (S:aC N ps (ah st)) (hfs:fs.length=ps.length)
  (cb:∀ (bu:Value) (A:Around) (outer:List Env) (s:Shared) (H:Hp) (E:XK) (as Ox:List Addr),bz k (A.deeper (envOfC qual (ah st) s.heap.objs.size f bu))→∀ ts q,ts.length=fs.length→G ts q →
    ∃ g,m8 (eG dI P w K mg base N qual (ah st) f bu A outer s H E).nZ ⟨H,pz fs as 0,Ox⟩ (bA st) g∧g { nx:=fun ρ=>q (oA fs ρ) (.vw .aT),rt:=fun ρ r=>q (oA fs ρ) r } (x3 fs ts ++ List.replicate (N.length - ts.length) none)) :
  b_ P w K mg base dI (k+1) f fd ps (PR K fs G):=by
 refine F.ok S (fun vs H Q E h=>?_) (fun bu A outer s H vs Q E hr h=>?_)
 · obtain ⟨ts,as,Ox,q,_,_,_,ha,_⟩:=h
   rw [← hfs]; exact (ke ha).2.1
 · obtain ⟨ts,as,Ox,q,nd,nx,ox,ha,hG,kk⟩:=h
   obtain ⟨l1,l2,l3,l4,l5⟩:=ke ha
   obtain ⟨p1,p2⟩:=ER 0 ha
   obtain ⟨g,hg,hq⟩:=cb bu A outer s H E as Ox hr ts q l1 hG
   have ea:av ⟨H,pz fs as 0,Ox⟩ (ro fs as ++ List.replicate (N.length - ts.length) none)=as ++ Ox:=by unfold av; rw [dU,l5]
   have adp:∀ H0 P (O:List (Option Addr)),av ⟨H0,P,Ox⟩ O=roots O ++ Ox:=fun _ _ _=>rfl
   have I0:ax K ⟨H,pz fs as 0,Ox⟩ [] (ro fs as ++ List.replicate (N.length - ts.length) none) (x3 fs ts ++ List.replicate (N.length - ts.length) none) (start N vs) H:=by
    refine ⟨?_,?_,fun i e he=>?_,by rw [dU,l5]; exact nd,fun a h=>?_,fun p hp=>?_,ox,fun b o e _=>e,fun p hp=>nomatch hp⟩
    · unfold L2.start; simp [l2,l4,l1]
    · simp [l3,l4]
    · rw [ea]
      by_cases hi:i < fs.length
      · rw [qh (by rw [l4]; exact hi)] at he
        obtain ⟨o,s,h1,h2,h3⟩:=oB ha i e he
        refine ⟨o,s,by rw [qh (by rw [l3]; exact hi)]; exact h1,?_,h3⟩
        unfold L2.start
        rw [qh (by rw [cU,l2]; exact hi)]; exact h2
      · rw [List.getElem?_append_right (by omega),BB] at he
        split at he
        · rename_i hl
          cases he
          refine ⟨none,none,?_,?_,rfl⟩
          · rw [uX (by omega),BB,if_pos (by rw [l3]; rw [l4] at hl; exact hl)]
          · unfold L2.start
            rw [uX (by rw [cU]; omega),BB,cU,if_pos (by rw [l2]; rw [l4,l1] at hl; exact hl)]
        · cases he
    · rw [dU,l5] at h
      obtain ⟨t,r⟩:=lr ha a h
      exact ⟨.inl (by show a∈(pz fs as 0).map (·.2); rw [p1]; exact h),nx a h,r.mut⟩
    · obtain ⟨_,e⟩:=p2 p hp
      rw [Nat.sub_zero] at e
      rw [qh (fG.mp e).1]; exact e
   have fin:∀ {O:List (Option Addr)} {ρ:En} {σ:St} {H':Hp} {Z':Zc},Z'.P=pz fs as 0→ax K Z' [] O ρ σ H'→Paired (fun a u=>cC K H' (av Z' O) a u) as (oA fs ρ):=fun {O ρ σ H' Z'} eP I=>by
    have:=sW (ρ:=ρ) (R:=fun a u=>cC K H' (av Z' O) a u) 0 ha fun p hp=>?_
    · rw [List.drop_zero] at this; exact this
    · have e:=I.par p (by rw [eP]; exact hp)
      have hl:=(fG.mp e).1
      have MJ:p.1 < ρ.length:=by rw [← I.lO]; exact hl
      obtain ⟨o,s',h1,h2,h3⟩:=I.sl p.1 ρ[p.1] (by simp)
      rw [e] at h1
      cases h1
      cases q:ρ[p.1] with
      | none=>rw [q] at h3; cases h3
      | some tb =>
        obtain ⟨t,b⟩:=tb
        rw [q] at h3
        cases b with
        | false=>cases h3.1
        | true =>
          obtain ⟨a',e1,_,r⟩:=h3
          cases e1
          exact ⟨t,by rw [← q]; simp,r⟩
   have keep:∀ {O:List (Option Addr)} {ρ:En} {σ:St} {H':Hp} {Z':Zc},Z'.H0=H→Z'.P=pz fs as 0→ax K Z' [] O ρ σ H'→∀ b o,H b=some o→b∉as→H' b=some o:=fun e0 eP I b o e n=>I.keep b o (by rw [e0]; exact e) (by rw [eP,p1]; exact n)
   have sub:∀ {O:List (Option Addr)} {ρ:En} {σ:St} {H':Hp} {Z':Zc},Z'.P=pz fs as 0→ax K Z' [] O ρ σ H'→∀ a∈as,a∈roots O:=fun eP I a h=>by
    have:a∈(pz fs as 0).map (·.2):=by rw [p1]; exact h
    obtain ⟨p,hp,rfl⟩:=vd.mp this
    exact aK.mpr (ik (I.par p (by rw [eP]; exact hp)))
   refine ⟨_,hg [],_,_,_,I0,hq,⟨fun O ρ σ H' I h=>?_,fun O ρ σ H' r v z h=>?_,fun _ _ _ _ _ h=>h.elim,fun _ _ _ _ _ h=>h.elim⟩⟩
   · have sb:∀ a∈as ++ Ox,a∈av ⟨H,pz fs as 0,Ox⟩ O:=fun a h=>by
      rcases cA.mp h with h | h
      · exact cq _ (sub rfl I a h)
      · exact bO _ h
     exact kk _ _ h .aT H' (keep rfl rfl I) ⟨yz,Paired.qj (fin rfl I) fun _ _ q=>q.aX sb⟩
   · cases r with
     | vw t =>
       obtain ⟨I,a⟩:=z
       have sb:∀ a∈as ++ Ox,a∈av ⟨H,pz fs as 0,Ox⟩ O:=fun a h=>by
        rcases cA.mp h with h | h
        · exact cq _ (sub rfl I a h)
        · exact bO _ h
       exact kk _ _ h v H' (keep rfl rfl I) ⟨a.aX sb,Paired.qj (fin rfl I) fun _ _ q=>q.aX sb⟩
     | fr t =>
       obtain ⟨b,rfl,I,hR,h0,hx⟩:=z
       have sb:∀ a∈b :: (as ++ Ox),a∈av (Zc.ex ⟨H,pz fs as 0,Ox⟩ b) O:=fun a h=>by
        rcases cY.mp h with h | h
        · rw [h]; exact bO _ c6
        · rcases cA.mp h with h | h
          · exact cq _ (sub rfl I a h)
          · exact bO _ (eB _ h)
       exact kk _ _ h (.ref b) H' (keep rfl rfl I) ⟨b,rfl,h0,fun hb=>(I.own b (sub rfl I b hb)).2.1 c6,hR.aX sb,Paired.qj (fin rfl I) fun _ _ q=>q.aX sb⟩
end
def cT (K:KFr) (n:Nat) (G:List T→(Rt→Prop)→Prop):Sp:=PR K (List.replicate n false) fun ts q=>G ts (q [])
section
variable {K:KFr} {H:Hp} {A:List Addr}
theorem eV:∀ {n:Nat} {ts:List T} {vs:List V},ts.length=n→az K H A ts vs→gR K H A (List.replicate n false) [] ts vs
 | 0,ts,vs,l,h=>by
   have e:ts=[]:=Xy.mp l
   subst e
   simp only [az] at h
   exact ⟨rfl,rfl,h⟩
 | n+1,ts,vs,l,h=>by
   cases ts with
   | nil=>simp at l
   | cons t ts =>
     simp only [az] at h
     obtain ⟨v,r,rfl,h1,h2⟩:=h
     exact ⟨t,ts,v,r,rfl,rfl,h1,eV (by simpa using l) h2⟩
end
theorem ax.ES {K:KFr} {Z:Zc} {tm:List (T×V)} {O:List (Option Addr)} {ρ:En} {σ:St} {H H':Hp} (I:ax K Z tm O ρ σ H) {a:Addr} (h:H a=none) (s:aN H H') {u:HO} (hu:H' a=some u):ax K (Z.ex a) tm O ρ σ H':=by
 have J:=I.same s
 obtain ⟨n1,n2,n3⟩:=I.fresh h
 have mr:∀ b∈av (Z.ex a) O,b∈av Z O∨H b=none:=fun b hb=>(dQ b hb).imp id fun e=>by rw [e]; exact h
 have fw:∀ {t:T} {v:V},At K H (av Z O) t v→At K H' (av (Z.ex a) O) t v:=fun q=>(q.more mr).same s
 refine ⟨J.lσ,J.lO,fun i e hi=>?_,J.nd,fun b hb=>?_,J.par,fun b hb=>?_,J.keep,fun p hp=>fw (I.m6 p hp)⟩
 · obtain ⟨o,w,h1,h2,h3⟩:=I.sl i e hi
   refine ⟨o,w,h1,h2,h3.map (fun _ _ q=>fw q) fun b t eo q=>?_⟩
   exact cC.same (q.map rfl fun _ _ z=>z.more mr) s
 · obtain ⟨q1,q2,q3⟩:=J.own b hb
   refine ⟨q1,fun z=>?_,q3⟩
   rcases cY.mp z with z | z
   · exact n1 (by rw [← z]; exact cq _ hb)
   · exact q2 z
 · rcases cY.mp hb with z | z
   · rw [z,hu]; simp
   · exact J.ox b z
def ET (n:Nat) (g:FA) (G:List T→(Rt→Prop)→Prop):FP:=fun ρ Q=>g ρ fun ts=>ts.length=n∧G ts Q
def PU:Rt→Bool
 | .vw t=>bU t
 | .fr (.lst ts)=>eR ts
 | _=>false
def PV (n:Nat) (g:FA) (G:List T→(Rt→Prop)→Prop):FP:=fun ρ Q=>g ρ fun ts=>ts.length=n∧G ts fun r=>PU r=true∧Q r
section
variable {X:Cx} {Z:Zc} {k n:Nat} {f:Addr} {fd:FuncData} {ps:List Str} {G:List T→(Rt→Prop)→Prop} {x:Str} {p pos:Pos} {e:Expr} {es:List Expr} {g:FA}
theorem AQ {tm:List (T×V)} {O:List (Option Addr)} {ρ:En} {σ:St} {H:Hp} {ts:List T} {vs:List V} {q:Rt→Prop} {Q:VK} (I:ax X.K Z tm O ρ σ H) (a:az X.K H (av Z O) ts vs) (hn:ts.length=n) (hG:G ts q)
  (k:∀ r,q r→∀ v H',aN H H'→fD X.K Z tm O ρ σ H' r v→Q v H'):cT X.K n G (vs ++ []) H Q E0:=by
 rw [IC]
 refine ⟨ts,[],av Z O,fun _ r=>q r,MD,fun _ z=>absurd z gK,I.xZ,eV hn a,hG,fun us r hr v H' fr z=>?_⟩
 have s:aN H H':=fun b o e=>fr b o e gK
 cases r with
 | vw t=>exact k _ hr v H' s ⟨I.same s,z.1⟩
 | fr t =>
   obtain ⟨b,rfl,hb,_,hR,_⟩:=z
   obtain ⟨n1,n2,n3⟩:=I.fresh hb
   obtain ⟨u,eu,_⟩:=hR.mut
   refine k _ hr _ H' s ⟨b,rfl,I.ES hb s eu,hR.aX fun c hc=>?_,n3,n2⟩
   rcases dQ c hc with z | z
   · exact eB _ z
   · rw [z]; exact c6
theorem aV (F:b_ X.prog X.w X.K X.mg X.base dI k f fd ps (cT X.K n G)) (hr:bz k X.A) (hg:Gl X x) (hm:X.mg x=some (.ref f)) (hk:PySem.W.keepIn X.K (.ref f)=true) (hb:Binds X.K fd ps []) (ha:VA X Z (e :: es) g)
  (qm:ic x:=by decide) (he:starEach (e :: es) X.env=(false,eval e X.env) :: starEach es X.env:=by rfl) (jy:(backTo pos (starEach es X.env)).any (·.1)=false:=by rfl) :
  VP X Z (.Call (.Name x p) (e :: es) [] pos) (ET n g G):=.mk fun tm=>PE.weak (j9 F hr hg hm hk hb .nil jz (ha tm) qm he jy) fun σ H Q ⟨ρ,O,q,I,hf,k⟩ =>
 ⟨ρ,O,_,I,hf,fun ts eL vs H1 s1 a1=>AQ (I.same s1) a1 eL.1 eL.2 fun r hr v H' s z=>k r hr v H' (s1.trans s) z⟩
theorem kf (F:b_ X.prog X.w X.K X.mg X.base dI k f fd ps (cT X.K n G)) (hr:bz k X.A) (hg:Gl X x) (hm:X.mg x=some (.ref f)) (hk:PySem.W.keepIn X.K (.ref f)=true) (hb:Binds X.K fd ps []) (ha:MY X Z (e :: es) g)
  (qm:ic x:=by decide) (he:starEach (e :: es) X.env=(false,eval e X.env) :: starEach es X.env:=by rfl) (jy:(backTo pos (starEach es X.env)).any (·.1)=false:=by rfl) :
  VP X Z (.Call (.Name x p) (e :: es) [] pos) (PV n g G):=.mk fun tm=>PE.weak (j9 F hr hg hm hk hb .nil jz (ha tm) qm he jy) fun σ H Q ⟨ρ,O,q,I,hf,k⟩ =>
 ⟨ρ,O,_,I,hf,fun ts eL vs H1 s1 a1=>by
   show cT X.K n G (vs ++ []) H1 Q E0
   rw [IC]
   have J:=I.same s1
   have a2:az X.K H1 [] ts vs:=az.iff.mpr (Paired.qj a1 fun _ _ z=>z.bare)
   refine ⟨ts,[],[],fun _ r=>PU r=true∧q r,MD,fun _ z=>absurd z gK,fun _ z=>absurd z gK,eV eL.1 a2,eL.2,fun us r ⟨hi,hr⟩ v H' fr z=>?_⟩
   have s:aN H1 H':=fun b o e=>fr b o e gK
   cases r with
   | vw t=>exact k _ hr v H' (s1.trans s) ⟨J.same s,At.bU hi z.1⟩
   | fr t =>
     obtain ⟨b,rfl,hb,_,hR,_⟩:=z
     obtain ⟨n1,n2,n3⟩:=J.fresh hb
     obtain ⟨u,eu,_⟩:=hR.mut
     cases t with
     | lst ts =>
       obtain ⟨ws,e1,e2⟩:=hR
       exact k _ hr _ H' (s1.trans s) ⟨b,rfl,J.ES hb s eu,⟨ws,e1,az.bU hi e2⟩,n3,n2⟩
     | _=>exact absurd hi (by simp [PU])⟩
end
def AM (K:KFr) (H:Hp) (A:List Addr) (O:List (Option Addr)) (ρ:En):List (Option Nat)→List T→List V→Prop
 | [],ts,vs=>ts=[]∧vs=[]
 | none :: ms,ts,vs=>∃ t lp v kc,ts=t :: lp∧vs=v :: kc∧At K H A t v∧AM K H A O ρ ms lp kc
 | some k :: ms,ts,vs=>∃ a t lp kc,ts=t :: lp∧vs = .ref a :: kc∧ρ[k]?=some (some (t,true))∧O[k]?=some (some a)∧AM K H A O ρ ms lp kc
def lAM (X:Cx) (Z:Zc) (tm:List (T×V)) (ms:List (Option Nat)) (f:FA):TA:=fun σ H Q=>∃ ρ O q,ax X.K Z tm O ρ σ H∧f ρ q∧∀ ts,q ts→∀ vs H',aN H H'→AM X.K H' (av Z O) O ρ ms ts vs→Q vs H'
def VAM (X:Cx) (Z:Zc) (es:List Expr) (ms:List (Option Nat)) (f:FA):Prop:=Bx fun tm=>PA X es (lAM X Z tm ms f)
instance {X:Cx} {Z:Zc} {es:List Expr} {ms:List (Option Nat)} {f:FA}:CoeFun (VAM X Z es ms f) fun _=>∀ tm,PA X es (lAM X Z tm ms f):=⟨fun h=>Bx.h h⟩
section
variable {X:Cx} {Z:Zc} {e:Expr} {es:List Expr} {g:FA}
end
def putK:List Nat→List T→En→En
 | k :: ks,u :: us,ρ=>putK ks us (ρ.set k (some (u,true)))
 | _,_,ρ=>ρ
section
variable {K:KFr} {H H':Hp} {A:List Addr}
theorem At.sX {as:List Addr} {t:T} {v:V} (fr:∀ b o,H b=some o→b∉as→H' b=some o) (sub:∀ a∈as,a∈A) (mu:∀ a∈as,∃ u,H a=some u∧jK u=true) (h:At K H A t v):At K H' A t v:=by
 refine At.map (fun b vs q=>?_) (fun b vs q=>?_) (fun b aY q=>?_) h
 · rcases q with q | q
   · refine .inl ⟨?_,q.2⟩
     have nb:b∉as:=fun z=>q.2 (sub b z)
     rcases q.1 with z | ⟨o',z⟩
     · exact .inl (fr _ _ z nb)
     · exact .inr ⟨o',fr _ _ z nb⟩
   · exact .inr q
 · rcases q with z | z
   · refine .inl ?_
     have nb:b∉as:=fun m=>by
      obtain ⟨u,eu,mu⟩:=mu b m
      rcases z with z | ⟨o',z⟩
      · rw [z] at eu; cases eu; cases mu
      · rw [z] at eu; cases eu; cases mu
     rcases z with z | ⟨o',z⟩
     · exact .inl (fr _ _ z nb)
     · exact .inr ⟨o',fr _ _ z nb⟩
   · exact .inr z
 · exact ⟨fr _ _ q.1 fun z=>q.2 (sub b z),q.2⟩
end
section
variable {X:Cx} {Z:Zc} {k:Nat} {f:Addr} {fd:FuncData} {ps:List Str} {fs:List Bool} {G:GT} {x:Str} {p pos:Pos} {e:Expr} {es:List Expr} {g:FA} {ms:List (Option Nat)}
theorem UN {K:KFr} {tm:List (T×V)} {O:List (Option Addr)} {ρ:En} {σ:St} {H:Hp} (I:ax K Z tm O ρ σ H) {i j:Nat} {a:Addr} (h1:O[i]?=some (some a)) (h2:O[j]?=some (some a)):i=j:=by
 have key:∀ (O:List (Option Addr)) (i j:Nat),i < j→O[i]?=some (some a)→O[j]?=some (some a)→(roots O).Nodup→False:=by
  intro O
  induction O with
  | nil=>intro i j _ h; simp at h
  | cons o O ih =>
    intro i j hij e1 e2 nd
    cases j with
    | zero=>omega
    | succ j =>
      have IK:O[j]?=some (some a):=by simpa using e2
      cases i with
      | zero =>
        have:o=some a:=by simpa using e1
        subst this
        simp only [roots,mx,id] at nd
        exact (jI.mp nd).1 (aK.mpr (ik IK))
      | succ i =>
        refine ih i j (by omega) (by simpa using e1) IK ?_
        cases o with
        | none=>simpa [roots] using nd
        | some b=>simp only [roots,mx,id] at nd; exact (jI.mp nd).2
 rcases Nat.lt_trichotomy i j with l | l | l
 · exact (key O i j l h1 h2 I.nd).elim
 · exact l
 · exact (key O j i l h2 h1 I.nd).elim
end
section
variable (K:KFr)
theorem vO:PySem.W.kitOne K (.type "int") (.type "int")=some true:=by kernel_rfl
theorem sY:PySem.W.kitOne K (.type "int") (.type "bool")=some false:=by kernel_rfl
theorem vP:PySem.W.kitOne K (.type "int") (.type "str")=some false:=by kernel_rfl
theorem sZ:PySem.W.kitOne K (.type "int") (.type "list")=some false:=by kernel_rfl
theorem qu:PySem.W.kitOne K (.type "int") (.type "tuple")=some false:=by kernel_rfl
theorem s_:PySem.W.kitOne K (.type "bool") (.type "int")=some true:=by kernel_rfl
theorem qv:PySem.W.kitOne K (.type "bool") (.type "bool")=some true:=by kernel_rfl
theorem tq:PySem.W.kitOne K (.type "bool") (.type "str")=some false:=by kernel_rfl
theorem qw:PySem.W.kitOne K (.type "bool") (.type "list")=some false:=by kernel_rfl
theorem oC:PySem.W.kitOne K (.type "bool") (.type "tuple")=some false:=by kernel_rfl
theorem vQ:PySem.W.kitOne K (.type "str") (.type "int")=some false:=by kernel_rfl
theorem tu:PySem.W.kitOne K (.type "str") (.type "bool")=some false:=by kernel_rfl
theorem vR:PySem.W.kitOne K (.type "str") (.type "str")=some true:=by kernel_rfl
theorem tw:PySem.W.kitOne K (.type "str") (.type "list")=some false:=by kernel_rfl
theorem qx:PySem.W.kitOne K (.type "str") (.type "tuple")=some false:=by kernel_rfl
theorem tD:PySem.W.kitOne K (.type "list") (.type "int")=some false:=by kernel_rfl
theorem qy:PySem.W.kitOne K (.type "list") (.type "bool")=some false:=by kernel_rfl
theorem tE:PySem.W.kitOne K (.type "list") (.type "str")=some false:=by kernel_rfl
theorem qz:PySem.W.kitOne K (.type "list") (.type "list")=some true:=by kernel_rfl
theorem oE:PySem.W.kitOne K (.type "list") (.type "tuple")=some false:=by kernel_rfl
theorem qA:PySem.W.kitOne K (.type "tuple") (.type "int")=some false:=by kernel_rfl
theorem oF:PySem.W.kitOne K (.type "tuple") (.type "bool")=some false:=by kernel_rfl
theorem qB:PySem.W.kitOne K (.type "tuple") (.type "str")=some false:=by kernel_rfl
theorem oG:PySem.W.kitOne K (.type "tuple") (.type "list")=some false:=by kernel_rfl
theorem m9:PySem.W.kitOne K (.type "tuple") (.type "tuple")=some true:=by kernel_rfl
theorem tF:PySem.W.kitOne K (.type "dict") (.type "int")=some false:=by kernel_rfl
theorem qC:PySem.W.kitOne K (.type "dict") (.type "bool")=some false:=by kernel_rfl
theorem tG:PySem.W.kitOne K (.type "dict") (.type "str")=some false:=by kernel_rfl
theorem qD:PySem.W.kitOne K (.type "dict") (.type "list")=some false:=by kernel_rfl
theorem oH:PySem.W.kitOne K (.type "dict") (.type "tuple")=some false:=by kernel_rfl
theorem lu:PySem.W.kitOne K (.type "NoneType") (.type "int")=some false:=by kernel_rfl
theorem kg:PySem.W.kitOne K (.type "NoneType") (.type "bool")=some false:=by kernel_rfl
theorem lx:PySem.W.kitOne K (.type "NoneType") (.type "str")=some false:=by kernel_rfl
theorem kh:PySem.W.kitOne K (.type "NoneType") (.type "list")=some false:=by kernel_rfl
theorem jN:PySem.W.kitOne K (.type "NoneType") (.type "tuple")=some false:=by kernel_rfl
end
def Ty2 (K:KFr) (H:Hp):V→String→Prop
 | .aT,t=>t="NoneType"
 | .bl _,t=>t="bool"
 | .int _,t=>t="int"
 | .str _,t=>t="str"
 | .ref a,t=>(t="list"∧∃ xs,fA K H a xs)∨(t="tuple"∧∃ xs,dG K H a xs)∨(t="dict"∧∃ aY,H a=some (.dK aY))
 | _,_=>False
def UO (K:KFr):List V→Hp→VK→Prop:=fun xs H Q=>∃ x n t b,xs=[x,.ty n]∧Ty2 K H x t∧PySem.W.kitOne K (.type t) (.type n)=some b∧Q (.bl b) H
theorem B6 {X:Cx}:dA X (.builtin "isinstance") (UO X.K):=by
 intro pins s σ H xs us Q I r h
 obtain ⟨x,n,t,b,rfl,ty,e,q⟩:=h
 obtain ⟨u,w',rfl,rx,ry⟩:=vals2 r
 obtain rfl:w'=Value.type n:=ry
 have fin:∀ tk,EP X pins σ Q (.bool b) { s with toks:=tk }:=fun tk=>⟨.bl b,H,I.tok _,rfl,q⟩
 cases x with
 | aT=>cases (show t=_ from ty); cases (show u=Value.none from rx); exact Ol PySem.W.kitx_none I.qk True.intro e (fun z=>nomatch z) fin
 | bl y=>cases (show t=_ from ty); cases (show u=Value.bool y from rx); exact Ol PySem.W.kitx_bool I.qk True.intro e (fun z=>nomatch z) fin
 | int i=>cases (show t=_ from ty); obtain ⟨t,q⟩:=(show ∃ t,u=Value.int i t from rx); cases q; exact Ol PySem.W.kitx_int I.qk True.intro e (fun z=>nomatch z) fin
 | str y=>cases (show t=_ from ty); obtain ⟨t,q⟩:=(show ∃ t,u=Value.str y t from rx); cases q; exact Ol PySem.W.kitx_str I.qk True.intro e (fun z=>nomatch z) fin
 | ref a =>
   cases (show u=Value.ref a from rx)
   rcases ty with ⟨rfl,xs,hq⟩ | ⟨rfl,xs,hq⟩ | ⟨rfl,aY,hq⟩
   · obtain ⟨aP,_,p,_⟩:=I.list hq
     obtain ⟨o,n',h1,h2,_⟩:=p
     exact Ol PySem.W.kitx_list I.qk ⟨o,h1,h2⟩ e (fun z=>nomatch z) fin
   · obtain ⟨aP,_,p,_⟩:=I.tuple hq
     obtain ⟨o,h1,h2,_⟩:=p
     exact Ol PySem.W.kitx_tuple I.qk ⟨o,h1,h2⟩ e (fun z=>nomatch z) fin
   · obtain ⟨_,_,vs,_,p⟩:=(show cw X.prog X.w H s.heap a (.dK aY) from I.cg a _ hq)
     obtain ⟨o,es,ep,h1,h2,_⟩:=p
     exact Ol PySem.W.kitx_dict I.qk ⟨o,h1,h2.1⟩ e (fun z=>nomatch z) fin
 | _=>exact (show False from ty).elim
def isInt:T→Bool
 | .int _=>true
 | .bl _=>true
 | _=>false
def isBool:T→Bool
 | .bl _=>true
 | _=>false
def isStr:T→Bool
 | .str _=>true
 | _=>false
def isList:T→Bool
 | .lst _=>true
 | _=>false
def JY:T→Bool
 | .tup _=>true
 | _=>false
def known:T→Bool
 | .dt _ _=>false
 | .df _ _ _=>false
 | .dz _ _ _=>false
 | .kt _=>false
 | .ins _ _ _=>false
 | .pin _ _=>false
 | .ob _=>false
 | .ty _=>false
 | _=>true
def ly (K:KFr) (n:String) (p:T→Bool):Prop:=∀ H A t v,known t=true→gq K H A t v→∃ ty,Ty2 K H v ty∧PySem.W.kitOne K (.type ty) (.type n)=some (p t)
theorem EU {K:KFr}:ly K "int" isInt:=by
 intro H A t v hk h
 cases t with
 | aT=>rw [h.aT]; exact ⟨_,rfl,lu K⟩
 | bl b=>rw [h.bl]; exact ⟨_,rfl,s_ K⟩
 | int b=>rw [h.int]; exact ⟨_,rfl,vO K⟩
 | str b=>rw [h.str]; exact ⟨_,rfl,vQ K⟩
 | tup l=>obtain ⟨a,vs,rfl,q,_⟩:=h.tup; exact ⟨_,.inr (.inl ⟨rfl,_,q⟩),qA K⟩
 | lst l=>obtain ⟨a,vs,rfl,q,_⟩:=h.lst; exact ⟨_,.inl ⟨rfl,_,q⟩,tD K⟩
 | dk ks l=>obtain ⟨a,vs,rfl,_,q,_⟩:=h.dk; exact ⟨_,.inr (.inr ⟨rfl,_,q⟩),tF K⟩
 | _=>simp only [known] at hk; cases hk
theorem rM {K:KFr}:ly K "bool" isBool:=by
 intro H A t v hk h
 cases t with
 | aT=>rw [h.aT]; exact ⟨_,rfl,kg K⟩
 | bl b=>rw [h.bl]; exact ⟨_,rfl,qv K⟩
 | int b=>rw [h.int]; exact ⟨_,rfl,sY K⟩
 | str b=>rw [h.str]; exact ⟨_,rfl,tu K⟩
 | tup l=>obtain ⟨a,vs,rfl,q,_⟩:=h.tup; exact ⟨_,.inr (.inl ⟨rfl,_,q⟩),oF K⟩
 | lst l=>obtain ⟨a,vs,rfl,q,_⟩:=h.lst; exact ⟨_,.inl ⟨rfl,_,q⟩,qy K⟩
 | dk ks l=>obtain ⟨a,vs,rfl,_,q,_⟩:=h.dk; exact ⟨_,.inr (.inr ⟨rfl,_,q⟩),qC K⟩
 | _=>simp only [known] at hk; cases hk
theorem oJ {K:KFr}:ly K "str" isStr:=by
 intro H A t v hk h
 cases t with
 | aT=>rw [h.aT]; exact ⟨_,rfl,lx K⟩
 | bl b=>rw [h.bl]; exact ⟨_,rfl,tq K⟩
 | int b=>rw [h.int]; exact ⟨_,rfl,vP K⟩
 | str b=>rw [h.str]; exact ⟨_,rfl,vR K⟩
 | tup l=>obtain ⟨a,vs,rfl,q,_⟩:=h.tup; exact ⟨_,.inr (.inl ⟨rfl,_,q⟩),qB K⟩
 | lst l=>obtain ⟨a,vs,rfl,q,_⟩:=h.lst; exact ⟨_,.inl ⟨rfl,_,q⟩,tE K⟩
 | dk ks l=>obtain ⟨a,vs,rfl,_,q,_⟩:=h.dk; exact ⟨_,.inr (.inr ⟨rfl,_,q⟩),tG K⟩
 | _=>simp only [known] at hk; cases hk
theorem B7 {K:KFr}:ly K "list" isList:=by
 intro H A t v hk h
 cases t with
 | aT=>rw [h.aT]; exact ⟨_,rfl,kh K⟩
 | bl b=>rw [h.bl]; exact ⟨_,rfl,qw K⟩
 | int b=>rw [h.int]; exact ⟨_,rfl,sZ K⟩
 | str b=>rw [h.str]; exact ⟨_,rfl,tw K⟩
 | tup l=>obtain ⟨a,vs,rfl,q,_⟩:=h.tup; exact ⟨_,.inr (.inl ⟨rfl,_,q⟩),oG K⟩
 | lst l=>obtain ⟨a,vs,rfl,q,_⟩:=h.lst; exact ⟨_,.inl ⟨rfl,_,q⟩,qz K⟩
 | dk ks l=>obtain ⟨a,vs,rfl,_,q,_⟩:=h.dk; exact ⟨_,.inr (.inr ⟨rfl,_,q⟩),qD K⟩
 | _=>simp only [known] at hk; cases hk
theorem eW {K:KFr}:ly K "tuple" JY:=by
 intro H A t v hk h
 cases t with
 | aT=>rw [h.aT]; exact ⟨_,rfl,jN K⟩
 | bl b=>rw [h.bl]; exact ⟨_,rfl,oC K⟩
 | int b=>rw [h.int]; exact ⟨_,rfl,qu K⟩
 | str b=>rw [h.str]; exact ⟨_,rfl,qx K⟩
 | tup l=>obtain ⟨a,vs,rfl,q,_⟩:=h.tup; exact ⟨_,.inr (.inl ⟨rfl,_,q⟩),m9 K⟩
 | lst l=>obtain ⟨a,vs,rfl,q,_⟩:=h.lst; exact ⟨_,.inl ⟨rfl,_,q⟩,oE K⟩
 | dk ks l=>obtain ⟨a,vs,rfl,_,q,_⟩:=h.dk; exact ⟨_,.inr (.inr ⟨rfl,_,q⟩),oH K⟩
 | _=>simp only [known] at hk; cases hk
def UP (f:FE) (p:T→Bool):FP:=fun ρ Q=>f ρ fun t=>known t=true∧Q (.vw (.bl (p t)))
section
variable {X:Cx} {Z:Zc} {e a b c:Expr} {es:List Expr} {pos p p2:Pos} {fa fb X':FE}
theorem tI:bootBuiltins "isinstance" = some (.builtin "isinstance"):=by decide +kernel
theorem du {n:String} {y:Str} {q:T→Bool} (hq:ly X.K n q) (hg:Gl X "isinstance") (hm:X.mg "isinstance" = none) (hgy:Gl X y) (hmy:X.mg y=none) (hby:bootBuiltins y=some (.type n)) (ha:VR X Z e fa)
  (hny:y≠"__name__":=by decide) (hdy:ic y:=by decide)
  (hs:starEach [e,.Name y p2] X.env=(false,eval e X.env) :: starEach [.Name y p2] X.env:=by rfl) (rn:starEach [.Name y p2] X.env=(false,eval (.Name y p2) X.env) :: starEach [] X.env:=by rfl) (jy:(backTo pos (starEach [.Name y p2] X.env)).any (·.1)=false:=by rfl) :
  VP X Z (.Call (.Name "isinstance" p) [e,.Name y p2] [] pos) (UP fa q):=.mk fun tm =>
 PE.weak (og B6 hg hm tI (bw (ha tm) (bw (Ja (v:=.ty n) hgy hmy hby rfl hny hdy) cO rn) hs) (by decide) (by decide) hs jy) fun σ H Q ⟨ρ,O,q',I,hf,k⟩=>⟨ρ,O,_,I,hf,fun t ht v H1 s1 a1=>by
  obtain ⟨ty,h1,h2⟩:=hq H1 _ t v ht.1 a1
  exact ⟨v,n,ty,_,rfl,h1,h2,k _ ht.2 _ H1 s1 ⟨I.same s1,dJ⟩⟩⟩
def jC:T→Bool
 | .aT=>true
 | .bl _=>true
 | .int _=>true
 | .str _=>true
 | _=>false
def vS:List T→Bool
 | []=>true
 | t :: ts=>jC t && vS ts
def Nh (x:T):List T→Bool
 | []=>false
 | t :: ts=>eqT t x || Nh x ts
theorem lz {K:KFr} {H:Hp} {A:List Addr}:∀ {ts:List T} {vs:List V} {x:T} {v:V},vS ts=true→jC x=true→az K H A ts vs→At K H A x v→vs.all iq=true∧iq v=true∧XY v vs=Nh x ts
 | [],vs,x,v,_,fx,h,hx=>by
   simp only [az] at h; subst h
   refine ⟨rfl,?_,rfl⟩
   cases x <;> simp only [At] at hx <;> first | (subst hx; rfl) | (simp only [jC] at fx; cases fx)
 | t :: ts,vs,x,v,f,fx,h,hx=>by
   simp only [az] at h
   obtain ⟨u,r,rfl,h1,h2⟩:=h
   simp only [vS,my] at f
   obtain ⟨i1,i2,i3⟩:=lz f.2 fx h2 hx
   have ft:iq u=true:=by
    cases t <;> simp only [At] at h1 <;> first | (subst h1; rfl) | (have:=f.1; simp only [jC] at this; cases this)
   have e:IJ u v=eqT t x:=by
    cases t <;> simp only [At] at h1 <;> first
     | (have:=f.1; simp only [jC] at this; cases this; done)
     | (subst h1
        cases x <;> simp only [At] at hx <;> first
         | (simp only [jC] at fx; cases fx; done)
         | (subst hx; simp [IJ,eqT]; done))
   refine ⟨by simp [ft,i1],i2,?_⟩
   simp only [Nh,XY,IF]
   rw [e]
   congr 1
def UQ (K:KFr) (neg:Bool):R2:=fun x y H Q=>rIn K neg x y H Q∨∃ i j,x = .str i∧y = .str j∧Q (.bl (if neg then !(!(Builtin.Str.occurrences j i 0 j.length 1).isEmpty) else !(Builtin.Str.occurrences j i 0 j.length 1).isEmpty)) H
theorem EV:fu X (compareOp .In) (UQ X.K false):=by
 intro pins s σ H x y v u Q I rx ry h
 rcases h with h | ⟨i,j,h1,h2,h⟩
 · exact BU pins s σ H x y v u Q I rx ry h
 · exact BM pins s σ H x y v u Q I rx ry ⟨i,j,h1,h2,by simpa using h⟩
def EW (i j:Str):Bool:=!(Builtin.Str.occurrences j i 0 j.length 1).isEmpty
def Ya (x y:T) (q:Rt→Prop):Prop:=match y with
 | .lst ts=>jC x=true∧vS ts=true∧q (.vw (.bl (Nh x ts)))
 | .tup ts=>jC x=true∧vS ts=true∧q (.vw (.bl (Nh x ts)))
 | .str j=>∃ i,x = .str i∧q (.vw (.bl (EW i j)))
 | _=>False
theorem EX {K:KFr}:ow K (UQ K false) Ya:=by
 intro Z tm O ρ σ H x y v w q Q I h1 h2 h k
 have x1:jC x=true→At K H (av Z O) x v:=fun f=>by
  rcases h1 with h | ⟨a,rfl,h⟩
  · exact h
  · cases x <;> first | exact h.elim | (simp only [jC] at f; cases f)
 unfold Ya at h
 split at h
 · obtain ⟨f1,f2,h⟩:=h
   obtain ⟨a,vs,rfl,q1,q2⟩:=h2.lst
   obtain ⟨i1,i2,i3⟩:=lz f2 f1 q2 (x1 f1)
   exact .inl ⟨a,vs,rfl,.inl q1,i2,i1,k _ h _ H (aN.refl H) ⟨I,by rw [if_neg eC,i3]; exact dJ⟩⟩
 · obtain ⟨f1,f2,h⟩:=h
   obtain ⟨a,vs,rfl,q1,q2⟩:=h2.tup
   obtain ⟨i1,i2,i3⟩:=lz f2 f1 q2 (x1 f1)
   exact .inl ⟨a,vs,rfl,.inr q1,i2,i1,k _ h _ H (aN.refl H) ⟨I,by rw [if_neg eC,i3]; exact dJ⟩⟩
 · obtain ⟨i,rfl,h⟩:=h
   exact .inr ⟨i,_,h1.str,h2.str,k _ h _ H (aN.refl H) ⟨I,by rw [if_neg eC]; exact dJ⟩⟩
 · exact h.elim
theorem UR (ha:VR X Z a fa) (hb:VR X Z b fb) (hm:behindInMarks .In b=false:=by rfl):VP X Z (.Compare a [.In] [b] pos) (f2 fa fb Ya):=yA EV EX ha hb hm
theorem rN (ha:VR X Z a fa) (hb:VR X Z b fb) (hm:behindInMarks .In b=false:=by rfl):VC X Z (.Compare a [.In] [b] pos) (m7 (f2 fa fb Ya)):=ir EV EX ha hb hm
def vU:T→Bool
 | .aT=>true
 | _=>false
def Z5 (x y:T) (q:Rt→Prop):Prop:=match y with
 | .aT=>q (.vw (.bl (vU x)))
 | _=>False
def yE (x y:T) (q:Rt→Prop):Prop:=match y with
 | .aT=>q (.vw (.bl (!vU x)))
 | _=>False
theorem AR {K:KFr} {H:Hp} {A:List Addr} {t:T} {v:V} (h:gq K H A t v):decide (v = .aT)=vU t:=by
 cases t with
 | aT=>rw [h.aT]; rfl
 | bl b=>rw [h.bl]; rfl
 | int b=>rw [h.int]; rfl
 | str b=>rw [h.str]; rfl
 | ob b=>rw [h.ob]; rfl
 | ty b =>
   have:v = .ty b:=h.elim (fun q=>by simpa only [At] using q) fun ⟨_,_,q⟩=>q.elim
   rw [this]; rfl
 | tup l=>obtain ⟨a,vs,rfl,_⟩:=h.tup; rfl
 | lst l=>obtain ⟨a,vs,rfl,_⟩:=h.lst; rfl
 | dk ks l=>obtain ⟨a,vs,rfl,_⟩:=h.dk; rfl
 | dt ks l=>obtain ⟨a,vs,rfl,_⟩:=h.dt; rfl
 | df o ks l=>obtain ⟨a,vs,rfl,_⟩:=h.df; rfl
 | dz o ks l=>obtain ⟨a,vs,rfl,_⟩:=h.dz; rfl
 | kt k=>obtain ⟨a,rfl,_⟩:=h.kt; rfl
 | ins C ns l=>obtain ⟨a,dx,vs,rfl,_⟩:=h.ins; rfl
 | pin a t =>
   have e:v = .ref a:=h.elim (fun q=>by simp only [At] at q; exact q.1) fun ⟨_,_,q⟩=>q.elim
   rw [e]; rfl
theorem PX {K:KFr}:ow K (fun x y H Q=>y = .aT∧Q (.bl (decide (x = .aT))) H) Z5:=by
 intro Z tm O ρ σ H x y v w q Q I h1 h2 h k
 unfold Z5 at h
 split at h
 · exact ⟨h2.aT,k _ h _ H (aN.refl H) ⟨I,by rw [AR h1]; exact dJ⟩⟩
 · exact h.elim
theorem B8 {K:KFr}:ow K (fun x y H Q=>y = .aT∧Q (.bl (!decide (x = .aT))) H) yE:=by
 intro Z tm O ρ σ H x y v w q Q I h1 h2 h k
 unfold yE at h
 split at h
 · exact ⟨h2.aT,k _ h _ H (aN.refl H) ⟨I,by rw [AR h1]; exact dJ⟩⟩
 · exact h.elim
theorem vV (ha:VR X Z a fa) (hb:VR X Z b fb):VC X Z (.Compare a [.Is] [b] pos) (m7 (f2 fa fb Z5)):=ir OY PX ha hb (gN _)
theorem vW (ha:VR X Z a fa) (hb:VR X Z b fb):VC X Z (.Compare a [.IsNot] [b] pos) (m7 (f2 fa fb yE)):=ir Jh B8 ha hb (gN _)
theorem EY {g g':Int→Int→Bool} {tm:List (T×V)} {σ:St} {H:Hp} {Q:VK} (h:lP X Z tm (f3 fa fb X' (UB g) (UB g')) σ H Q):Eh (vq fun i j=>.bl (g i j)) (vq fun i j=>.bl (g' i j)) (lR X Z tm fa) (lR X Z tm fb) (lR X Z tm X') σ H Q:=by
 obtain ⟨ρ,O,q,I,hf,k⟩:=h
 refine ⟨ρ,O,_,I,hf,fun x hx v H1 s1 a1=>⟨ρ,O,_,I.same s1,hx,fun y hy w H2 s2 a2=>?_⟩⟩
 have J:=(I.same s1).same s2
 unfold UB at hy
 split at hy
 · rename_i i j
   refine ⟨i,j,(a1.same s2).int,a2.int,_,rfl,?_⟩
   cases e:g i j with
   | true =>
     rw [e] at hy
     refine Pg ⟨ρ,O,_,J,hy,fun z hz w3 H3 s3 a3=>?_⟩
     split at hz
     · rename_i e1
       cases e1
       exact ⟨_,_,(a2.same s3).int,a3.int,k _ hz _ H3 ((s1.trans s2).trans s3) ⟨J.same s3,dJ⟩⟩
     · exact hz.elim
   | false =>
     rw [e] at hy
     exact Pf (k _ hy _ H2 (s1.trans s2) ⟨J,dJ⟩)
 · exact hy.elim
theorem EZ {op OZ:CmpOp} {g g':Int→Int→Bool} (ho:fu X (compareOp op) (vq fun i j=>.bl (g i j))) (nX:fu X (compareOp OZ) (vq fun i j=>.bl (g' i j))) (ha:VR X Z a fa) (hb:VR X Z b fb) (hc:VR X Z c X')
  (hm:lastMarks [op,OZ] [b,c]=false:=by with_unfolding_all rfl):VC X Z (.Compare a [op,OZ] [b,c] pos) (m7 (f3 fa fb X' (UB g) (UB g'))):=.mk fun tm=>PT.weak (Ei ho nX (ha tm) (hb tm) (hc tm) hm) fun σ H Q ⟨ρ,O,q,I,hf,k⟩ =>
 EY ⟨ρ,O,_,I,hf,fun t ht u H' s a=>by
  obtain ⟨c,rfl,hc⟩:=yB ht
  have e:=a.2
  simp only [At] at e
  exact ⟨c,e,k c hc H' s⟩⟩
def d_ (ts:List T):List T:=ts.mapIdx fun i t=>.tup [.int (i:Int),t]
def UT (f:FE):FI:=fun ρ Q=>f ρ fun t=>match t with
 | .lst ts=>Q (d_ ts)
 | _=>False
theorem JZ {K:KFr} {a:Addr} {ts:List T}:Wk K (ZE K a) [(.lst ts,.ref a)] (d_ ts):=fun H A hA h i=>by
 have h:=h _ c6
 simp only [At] at h
 obtain ⟨b,vs,e,l,q⟩:=h
 cases e
 have hl:=q.length
 have hle:(d_ ts).length=ts.length:=by unfold d_; rw [List.length_mapIdx]
 rw [hle]
 refine ⟨fun hi=>⟨vs,vs[i]'(by omega),l.sq,by simp⟩,fun hi=>⟨vs,l.sq,by omega⟩,fun t ht x H' y=>?_⟩
 obtain ⟨p,u,hp,rfl,hu,rfl⟩:=y
 unfold d_ at ht
 rw [XD] at ht
 cases e:ts[i]? with
 | none=>rw [e] at ht; cases ht
 | some t' =>
   rw [e] at ht
   cases ht
   obtain ⟨v,e1,e2⟩:=q.get e
   have:=hu vs l.sq
   rw [e1] at this
   cases this
   exact ⟨aG hp,bX (dG.of aI) (az.cons bb (az.cons (e2.same (aG hp)) az.nil))⟩
theorem AS {elts:List Expr} {x1} {tp:Pos} (hg:Gl X "enumerate") (hm:X.mg "enumerate" = none) (ha:VE X Z a fa) (hs:starEach [a] X.env=[(false,eval a X.env)]:=by rfl) :
  VI X Z (.Tuple elts x1 tp) (.Call (.Name "enumerate" p) [a] [] pos) (UT fa):=.mk fun tm=>PI.weak (JD hg hm (bw (ha tm) cO hs) hs) fun σ H R ⟨ρ,O,q,I,hf,k⟩=>⟨ρ,O,_,I,hf,fun t ht v H' s a=>by
 split at ht
 · have a0:=a
   simp only [At] at a
   obtain ⟨p,vs,rfl,l,_⟩:=a
   exact ⟨p,rfl,⟨vs,l.sq⟩,k _ ht _ H' _ s (fun p hp=>by rw [kZ.mp hp]; exact a0) JZ⟩
 · exact ht.elim⟩
def c0:List T→Option (List Bool)
 | []=>some []
 | .bl b :: ts=>(c0 ts).map (b :: ·)
 | _=>none
theorem E2 {K:KFr} {H:Hp} {A:List Addr}:∀ {ts:List T} {bs:List Bool} {vs:List V},c0 ts=some bs→az K H A ts vs→vs=bs.map V.bl
 | [],bs,vs,e,h=>by simp only [c0] at e; cases e; simp only [az] at h; rw [h]; rfl
 | .bl b :: ts,bs,vs,e,h=>by
   simp only [c0] at e
   cases q:c0 ts with
   | none=>rw [q] at e; cases e
   | some cs =>
     rw [q] at e
     cases e
     simp only [az,At] at h
     obtain ⟨v,r,rfl,rfl,h⟩:=h
     rw [E2 q h]; rfl
 | .aT :: _,_,_,e,_=>by simp [c0] at e
 | .int _ :: _,_,_,e,_=>by simp [c0] at e
 | .str _ :: _,_,_,e,_=>by simp [c0] at e
 | .tup _ :: _,_,_,e,_=>by simp [c0] at e
 | .lst _ :: _,_,_,e,_=>by simp [c0] at e
 | .dk _ _ :: _,_,_,e,_=>by simp [c0] at e
 | .dt _ _ :: _,_,_,e,_=>by simp [c0] at e
 | .df _ _ _ :: _,_,_,e,_=>by simp [c0] at e
 | .dz _ _ _ :: _,_,_,e,_=>by simp [c0] at e
 | .kt _ :: _,_,_,e,_=>by simp [c0] at e
 | .ins _ _ _ :: _,_,_,e,_=>by simp [c0] at e
 | .pin _ _ :: _,_,_,e,_=>by simp [c0] at e
 | .ob _ :: _,_,_,e,_=>by simp [c0] at e
 | .ty _ :: _,_,_,e,_=>by simp [c0] at e
def UU (ts:List T) (q:Rt→Prop):Prop:=match ts with
 | [.lst l]=>∃ bs,c0 l=some bs∧q (.vw (.bl (bs.all id)))
 | _=>False
theorem B9 {K:KFr}:mJ K (fun xs H Q=>∃ (p:Addr) (bs:List Bool),xs=[.ref p]∧fA K H p (bs.map V.bl)∧Q (.bl (bs.all id)) H) UU:=by
 intro Z tm O ρ σ H ts vs q Q I h hp k
 unfold UU at hp
 split at hp
 · obtain ⟨bs,e,hp⟩:=hp
   obtain ⟨v,rfl,a⟩:=cS h
   obtain ⟨p,ws,rfl,q1,q2⟩:=a.lst
   rw [E2 e q2] at q1
   exact ⟨p,bs,rfl,q1,k _ hp _ H (aN.refl H) ⟨I,dJ⟩⟩
 · exact hp.elim
def Ni (ts:List T) (q:Rt→Prop):Prop:=match ts with
 | [.int i]=>q (.vw (.int i))
 | [.bl b]=>q (.vw (.int (if b then 1 else 0)))
 | _=>False
theorem oK {K:KFr}:mJ K (fun xs H Q=>(∃ i,xs=[.int i]∧Q (.int i) H)∨∃ k,xs=[.bl k]∧Q (.int (if k then 1 else 0)) H) Ni:=by
 intro Z tm O ρ σ H ts vs q Q I h hp k
 unfold Ni at hp
 split at hp
 · obtain ⟨v,rfl,a⟩:=cS h
   exact .inl ⟨_,by rw [a.int],k _ hp _ H (aN.refl H) ⟨I,bb⟩⟩
 · obtain ⟨v,rfl,a⟩:=cS h
   exact .inr ⟨_,by rw [a.bl],k _ hp _ H (aN.refl H) ⟨I,bb⟩⟩
 · exact hp.elim
def Z6 (f:FP) (fb:FE):FP:=fun ρ Q=>f ρ fun r=>match r with
 | .fr (.lst ts)=>fb ρ fun y=>match y with
   | .int k=>-(2 ^ 63)≤k∧k < 2 ^ 63∧ts.length * k.toNat≤sizeLine∧Q (.fr (.lst (List.replicate k.toNat ts).flatten))
   | _=>False
 | _=>False
theorem az.rep {K:KFr} {H:Hp} {A:List Addr} {ts:List T} {vs:List V} (h:az K H A ts vs):∀ k:Nat,az K H A (List.replicate k ts).flatten (List.replicate k vs).flatten
 | 0=>az.nil
 | k+1=>by rw [Ao,Ao,My,My]; exact h.append (az.rep h k)
theorem jO {f:FP} (ha:VP X Z a f) (hb:VR X Z b fb):VP X Z (.BinOp a .Mult b pos) (Z6 f fb):=.mk fun tm=>PE.weak (MN Pc (ha tm) (hb tm)) fun σ H Q ⟨ρ,O,q,I,hf,k⟩=>⟨ρ,O,_,I,hf,fun r hr v H1 s1 z=>by
 split at hr
 · obtain ⟨l,rfl,J,⟨xs,e,q1⟩,_⟩:=z
   refine ⟨ρ,O,_,I.same s1,hr,fun y hy w H2 s2 a2=>?_⟩
   split at hy
   · obtain ⟨h1,h2,h3,hy⟩:=hy
     have q2:az X.K H2 (av Z O) _ xs:=(q1.same s2).aX gp
     exact ⟨l,_,xs,rfl,a2.int,s2 _ _ e,h1,h2,by rw [q2.length]; exact h3,fun p hp=>k _ hy _ _ ((s1.trans s2).trans (aG hp)) (((I.same s1).same s2).B3 hp (q2.rep _))⟩
   · exact hy.elim
 · exact hr.elim⟩
end
structure Df (K:KFr) (mg:Str→Option Value) (x:Str) (st:Stmt) (ps:List Str) (f:Addr) (fd:FuncData):Prop where
 F:AE K x x st f fd
 m:mg x=some (.ref f)
 b:Binds K fd ps []
def cy (P:Program) (w:World) (K:KFr) (mg:Str→Option Value) (base:Heap) (x:Str) (ps:List Str) (k:Nat) (sp:Sp):Prop :=
 ∃ f fd,mg x=some (.ref f)∧PySem.W.keepIn K (.ref f)=true∧Binds K fd ps []∧b_ P w K mg base dI k f fd ps sp
theorem Df.gJ {P:Program} {w:World} {K:KFr} {mg:Str→Option Value} {base:Heap} {x:Str} {st:Stmt} {ps:List Str} {f:Addr} {fd:FuncData} {k:Nat} {sp:Sp} (D:Df K mg x st ps f fd) (F:b_ P w K mg base dI k f fd ps sp):cy P w K mg base x ps k sp :=
 ⟨f,fd,D.m,D.F.kp,D.b,F⟩
theorem ki {H:Hp} {Ox:List Addr} {i:Nat}:br ⟨H,[],Ox⟩ i:=fun _ z=>nomatch z
section
variable {P:Program} {w:World} {K:KFr} {mg:Str→Option Value} {base:Heap}
theorem kj {x qual:Str} {st:Stmt} {f:Addr} {fd:FuncData} {N ps:List Str} {k n:Nat} {G:List T→(Rt→Prop)→Prop} (F:AE K x qual st f fd) (S:aC N ps (ah st)) (hn:n=ps.length)
  (cb:∀ (bu:Value) (A:Around) (outer:List Env) (s:Shared) (H:Hp) (E:XK) (Ox:List Addr),bz k (A.deeper (envOfC qual (ah st) s.heap.objs.size f bu))→∀ ts q,G ts q →
    ∃ g,m8 (eG dI P w K mg base N qual (ah st) f bu A outer s H E).nZ ⟨H,[],Ox⟩ (bA st) g∧(ts.length=n→g { nx:=fun _=>q (.vw .aT),rt:=fun _ r=>q r } (ts.map (fun t=>some (t,false)) ++ List.replicate (N.length - ts.length) none))) :
  b_ P w K mg base dI (k+1) f fd ps (cT K n G):=by
 have hp:∀ n (as:List Addr) k,pz (List.replicate n false) as k=[]:=by
  intro n
  induction n with
  | zero=>intro as k; rfl
  | succ n ih=>intro as k; exact ih as (k+1)
 have hfi:∀ n (ρ:En),oA (List.replicate n false) ρ=[]:=by
  intro n
  induction n with
  | zero=>intro ρ; rfl
  | succ n ih=>intro ρ; exact ih ρ.tail
 have he:∀ n (ts:List T),ts.length=n→x3 (List.replicate n false) ts=ts.map fun t=>some (t,false):=by
  intro n
  induction n with
  | zero=>intro ts e; cases ts <;> simp_all [x3]
  | succ n ih =>
    intro ts e
    cases ts with
    | nil=>simp at e
    | cons t ts=>rw [Ao,x3,ih ts (by simpa using e)]; rfl
 refine fnV F S (by rw [An]; exact hn) fun bu A outer s H E as Ox hr ts q hl hG=>?_
 rw [An] at hl
 obtain ⟨g,h1,h2⟩:=cb bu A outer s H E Ox hr ts (q []) hG
 refine ⟨g,by rw [hp]; exact h1,?_⟩
 rw [he n ts hl]
 simp only [hfi]
 exact h2 hl
end
theorem bz.gx {k:Nat} {A:Around} (r:bz k A):A.units+101 < cLine:=by have:=r.un; omega
theorem lC:bootBuiltins "list" = some (.type "list"):=by decide +kernel
theorem fP:bootBuiltins "tuple" = some (.type "tuple"):=by decide +kernel
theorem UW:bootBuiltins "all" = some (.builtin "all"):=by decide +kernel
theorem UX:bootBuiltins "min" = some (.builtin "min"):=by decide +kernel
theorem E3:bootBuiltins "int" = some (.type "int"):=by decide +kernel
theorem E4:bootBuiltins "bool" = some (.type "bool"):=by decide +kernel
theorem E5:bootBuiltins "str" = some (.type "str"):=by decide +kernel
theorem nJ:∀ {fs:List Bool} {as:List Addr} {k:Nat},∀ p∈pz fs as k,k≤p.1∧fs[p.1 - k]?=some true
 | [],_,_,p,hp=>nomatch hp
 | false :: fs,as,k,p,hp=>by
   obtain ⟨h1,h2⟩:=nJ (fs:=fs) (as:=as) (k:=k+1) p hp
   refine ⟨by omega,?_⟩
   have:p.1 - k=(p.1 - (k+1))+1:=by omega
   rw [this]; simpa using h2
 | true :: fs,a :: as,k,p,hp=>by
   rcases cY.mp hp with z | z
   · subst z; exact ⟨dm _,by simp⟩
   · obtain ⟨h1,h2⟩:=nJ (fs:=fs) (as:=as) (k:=k+1) p z
     refine ⟨by omega,?_⟩
     have:p.1 - k=(p.1 - (k+1))+1:=by omega
     rw [this]; simpa using h2
 | true :: fs,[],k,p,hp=>by
   obtain ⟨h1,h2⟩:=nJ (fs:=fs) (as:=[]) (k:=k+1) p hp
   refine ⟨by omega,?_⟩
   have:p.1 - k=(p.1 - (k+1))+1:=by omega
   rw [this]; simpa using h2
theorem UY {H:Hp} {fs:List Bool} {as Ox:List Addr} {i:Nat} (h:fs[i]?≠some true):br ⟨H,pz fs as 0,Ox⟩ i:=fun p hp e=>by
 have:=(nJ p hp).2
 rw [Nat.sub_zero,e] at this
 exact h this
theorem gS (lo:Int) (n:Nat):(rangeT lo n).length=n:=by unfold rangeT; rw [cU,Th]
theorem yF {lo:Int} {n i:Nat} {t:T} (h:(rangeT lo n)[i]?=some t):i < n∧t = .int (lo+(i:Int)):=by
 unfold rangeT at h
 rw [i4] at h
 cases e:(List.range n)[i]? with
 | none=>rw [e] at h; cases h
 | some j =>
   rw [e] at h
   obtain ⟨h1,h2⟩:=fG.mp e
   rw [List.getElem_range] at h2
   rw [Th] at h1
   subst h2
   cases h
   exact ⟨h1,rfl⟩
theorem oM {lo:Int} {n:Nat} {h:FG} {g:FS} {d:EN} {ρ:En} (Pv:Nat→En→Prop) (h0:Pv 0 ρ) (hs:∀ (i:Nat) ρ',i < n→Pv i ρ'→h (.int (lo+(i:Int))) ρ' fun ρ2=>g { nx:=Pv (i+1),ct:=Pv (i+1),bk:=d.nx,rt:=d.rt } ρ2)
 (hd:∀ ρ',Pv n ρ'→d.nx ρ'):mK (rangeT lo n) h g d ρ:=⟨Pv,h0,fun i t ρ' e p=>by obtain ⟨h1,rfl⟩:=yF e; exact hs i ρ' h1 p,fun ρ' p=>hd ρ' (by rw [gS] at p; exact p)⟩
theorem E6 {α:Type} {f:α→T} {xs:List α} {h:FG} {g:FS} {d:EN} {ρ:En} (Pv:Nat→En→Prop) (h0:Pv 0 ρ) (hs:∀ (i:Nat) x ρ',xs[i]?=some x→Pv i ρ'→h (f x) ρ' fun ρ2=>g { nx:=Pv (i+1),ct:=Pv (i+1),bk:=d.nx,rt:=d.rt } ρ2)
 (hd:∀ ρ',Pv xs.length ρ'→d.nx ρ'):mK (xs.map f) h g d ρ:=⟨Pv,h0,fun i t ρ' e p=>by
   rw [i4] at e
   cases q:xs[i]? with
   | none=>rw [q] at e; cases e
   | some x=>rw [q] at e; cases e; exact hs i x ρ' q p,fun ρ' p=>hd ρ' (by rw [cU] at p; exact p)⟩
theorem Z7 {c:Bool} {A B:Prop} (hc:c=true) (h:A):if c=true then A else B:=by rw [if_pos hc]; exact h
theorem E7 {c:Bool} {A B:Prop} (hc:c=false) (h:B):if c=true then A else B:=by rw [if_neg (by rw [hc]; exact eC)]; exact h
theorem jt {c A B:Prop} [Decidable c] (h1:c→A) (h2:¬ c→B):if decide c=true then A else B:=by
 by_cases h:c
 · rw [if_pos (decide_eq_true h)]; exact h1 h
 · rw [if_neg (by rw [decide_eq_false h]; exact eC)]; exact h2 h
section
variable {prog:Program} {w:World} {A:Around} {E:Value→Shared→Prop} {s:Shared}
theorem kl {it t:Addr} {i:Nat} {items:Array Value} {x:Value} {Q:Value→Shared→Prop} (hit:s.heap.IsTupleIter it t i) (ht:s.heap.IsTuple t items) (hx:items[i]?=some x)
  (hQ:∀ h',h'.IsTupleIter it t (i+1)→Heap.SameBut it s.heap h'→Q x { s with heap:=h' }):wpAny (model prog w) A (Builtin.SmallTypes.nextOf (.ref it)) Q E s:=by
 obtain ⟨o,ho,hc,hd⟩:=id hit
 obtain ⟨ol,Z8,_,nl,Z9⟩:=ht
 unfold Builtin.SmallTypes.nextOf
 refine wpAny_bind (wpAny_callSpecial?_slot (name:=Str.ofString "__next__") hit.typeIs Ms
  (wpAny_call_entry Ms hit.typeIs Xw ?_ (Xv _)))
 show wpAny _ _ (field (.ref it) 0 >>= _) _ _ s
 refine wpAny_bind (wpAny_field ho hd (x:=.ref t) rfl ?_)
 show wpAny _ _ (if (Value.ref t == Value.none)=true then _ else _) _ _ s
 rw [if_neg (show ¬ ((Value.ref t == Value.none)=true) from eC)]
 show wpAny _ _ (field (.ref it) 1 >>= _) _ _ s
 refine wpAny_bind (wpAny_field ho hd (x:=.int i 0) rfl ?_)
 show wpAny _ _ (seqItems? (.ref t) >>= _) _ _ s
 refine wpAny_bind (wpAny_seqItems Z8 Z9 ?_)
 simp only [xY,hx]
 refine wpAny_bind (wpAny_setField ho hd (by simp) (wpAny_pure ⟨x,rfl,wpAny_pure (hQ _ ?_ (XE ..))⟩))
 exact ⟨_,Heap.get?_update_self _ ho (Obj.isFreed_of_fields (XM hd _)),(Obj.cls_mapFields ..).trans hc,by
  rw [XM hd]; simp [rawInt]⟩
theorem lF {it t:Addr} {i:Nat} {items:Array Value} {Q:Value→Shared→Prop} (hh:A.handled=none) (hit:s.heap.IsTupleIter it t i) (ht:s.heap.IsTuple t items) (hx:items[i]?=none)
  (hE:∀ h' e,Heap.ExtBut it s.heap h'→(∃ o,h'.get? e=some o∧o.cls = .type "StopIteration")→E (.ref e) { s with heap:=h' }):wpAny (model prog w) A (Builtin.SmallTypes.nextOf (.ref it)) Q E s:=by
 obtain ⟨o,ho,hc,hd⟩:=id hit
 obtain ⟨ol,Z8,_,nl,Z9⟩:=ht
 unfold Builtin.SmallTypes.nextOf
 refine wpAny_bind (wpAny_callSpecial?_slot (name:=Str.ofString "__next__") hit.typeIs Ms
  (wpAny_call_entry Ms hit.typeIs Xw ?_ (Xv _)))
 show wpAny _ _ (field (.ref it) 0 >>= _) _ _ s
 refine wpAny_bind (wpAny_field ho hd (x:=.ref t) rfl ?_)
 show wpAny _ _ (if (Value.ref t == Value.none)=true then _ else _) _ _ s
 rw [if_neg (show ¬ ((Value.ref t == Value.none)=true) from eC)]
 show wpAny _ _ (field (.ref it) 1 >>= _) _ _ s
 refine wpAny_bind (wpAny_field ho hd (x:=.int i 0) rfl ?_)
 show wpAny _ _ (seqItems? (.ref t) >>= _) _ _ s
 refine wpAny_bind (wpAny_seqItems Z8 Z9 ?_)
 simp only [xY,hx]
 refine wpAny_bind (wpAny_rule (wpAny_bind (wpAny_setField ho hd (by simp) ?_)))
 show wpAny _ _ (newExc (.type "StopIteration") [] >>= _) _ _ _
 refine wpAny_bind ?_
 simp only [newExc,newTuple]
 refine wpAny_bind (wpAny_newObj_type ?_ (by size_fits))
 refine wpAny_bind (m:=firstArgMember _ _) (wpAny_of_eq (a:=Value.none) (by first | rfl | (simp only [firstArgMember]; rfl)) ?_)
 refine wpAny_newObj_type ?_ (by size_fits)
 simp only [raiseNew]
 refine wpAny_bind (wpAny_handled ?_)
 first | rw [show A.in1.handled=none from hh] | rw [hh]
 refine wpAny_bind (wpAny_pure (wpAny_throw ?_))
 exact hE _ _ (((XE ..).extBut.push _).push _) ⟨_,mZ _ rfl,rfl⟩
end
structure Part (prog:Program) (w:World) (i:Addr) (fp:List Addr) (n:Nat) (Pv:Nat→Value→Prop) (st:Nat→Heap→Prop):Prop where
 draws:∀ A:Around,A.handled=none→Draws prog w A i fp n Pv st
 mem:i∈fp
 fld:∀ k h,st k h→∃ o vs,h.get? i=some o∧o.data = .fields vs
theorem B_ {prog:Program} {w:World} (it l:Addr) (eK:l≠it) (items:Array Value):Part prog w it [it,l] items.size (fun i v=>items[i]?=some v) (fun i h=>h.IsListIter it l i∧h.IsList l items) :=
 ⟨fun A hh=>Draws.list hh it l eK items,by simp,fun k h st=>let ⟨⟨o,e,_,d⟩,_⟩:=st; ⟨o,_,e,d⟩⟩
theorem yG {prog:Program} {w:World} (it l:Addr) (eK:l≠it) (items:Array Value):Part prog w it [it,l] items.size (fun i v=>items[i]?=some v) (fun i h=>h.IsTupleIter it l i∧h.IsTuple l items) :=
 ⟨fun A hh=>{ live:=fun _ _ st=>let ⟨o,ho,_⟩:=st.1; ⟨o,ho⟩
              frame:=fun _ _ _ st hk=>⟨let ⟨o,ho,r⟩:=st.1; ⟨o,hk it (by simp) o ho,r⟩,let ⟨o,ho,r⟩:=st.2; ⟨o,hk l (by simp) o ho,r⟩⟩
              item:=fun i s Q E hi st hQ=>kl st.1 st.2 (x:=items[i]) (by simp [hi]) fun h' Z_ UZ=>hQ _ h' s.toks (by simp [hi]) ⟨Z_,st.2.extBut UZ.extBut eK⟩ UZ
              done:=fun s Q E st hE=>lF hh st.1 st.2 (by simp) hE },by simp,fun k h st=>let ⟨⟨o,e,_,d⟩,_⟩:=st; ⟨o,_,e,d⟩⟩
theorem E8 {prog:Program} {w:World} (it:Addr) (x:Str) (t:Tok):Part prog w it [it] x.cps.size (fun i v=>∃ c u,x.cps[i]?=some c∧v = .str ⟨#[c]⟩ u) (fun i h=>h.IsStrIter it (strIterType x) x t i):=by
 rcases c9 x with z | z
 · rw [z]; exact ⟨fun A hh=>Draws.strAscii hh it x t,by simp,fun k h st=>let ⟨o,e,_,d⟩:=st; ⟨o,_,e,d⟩⟩
 · rw [z]; exact ⟨fun A hh=>Draws.strWide hh it x t,by simp,fun k h st=>let ⟨o,e,_,d⟩:=st; ⟨o,_,e,d⟩⟩
structure Apart (z TI TO i1 i2:Addr) (oN nK:List Addr):Prop where
 TIz:TI≠z
 TOz:TO≠z
 i1z:i1≠z
 i2z:i2≠z
 TITO:TI≠TO
 TIi1:TI≠i1
 TIi2:TI≠i2
 TOi1:TO≠i1
 TOi2:TO≠i2
 i12:i1≠i2
 z1:z∉oN
 z2:z∉nK
 O1:TO∉oN
 O2:TO∉nK
 x1:i2∉oN
 x2:i1∉nK
section
variable {prog:Program} {w:World} {A:Around} {E:Value→Shared→Prop} {s:Shared} {z TI TO i1 i2:Addr} {oN nK:List Addr} {n1 n2:Nat} {P1 P2:Nat→Value→Prop} {S1 S2:Nat→Heap→Prop}
theorem E9 {k:Nat} {a b:Value} {Q:Value→Shared→Prop} (hh:A.handled=none) (D:Apart z TI TO i1 i2 oN nK) (p1:Part prog w i1 oN n1 P1 S1) (p2:Part prog w i2 nK n2 P2 S2)
  (hz:IsZip s.heap z TI TO .none) (J_:IsPair s.heap TI (.ref i1) (.ref i2)) (Ka:IsPair s.heap TO a b) (h1:S1 k s.heap) (h2:S2 k s.heap) (hx:k < n1) (hy:k < n2)
  (hQ:∀ x y h' tk,P1 k x→P2 k y→IsZip h' z TI TO (rawInt s.heap.objs.size)→IsPair h' TO x y→S1 (k+1) h'→S2 (k+1) h'→IsPair h' s.heap.objs.size x y→h'.objs.size=s.heap.objs.size+1 →
    (∀ c o,c≠z→c≠TO→c≠i1→c≠i2→s.heap.get? c=some o→h'.get? c=some o)→Q (.ref s.heap.objs.size) { s with heap:=h',toks:=tk }) :
  wpAny (model prog w) A (Builtin.«zip.__next__» ⟨[.ref z],[]⟩) (fun fin s'=>∃ v,fin = .done (.ret v)∧Q v s') E s:=by
 show wpAny _ _ (field (.ref z) 2 >>= _) _ _ _
 refine wpAny_bind (wpAny_field hz rfl (x:=.bool false) rfl ?_)
 show wpAny _ _ (field (.ref z) 3 >>= _) _ _ _
 refine wpAny_bind (wpAny_field hz rfl (x:=.ref TI) rfl ?_)
 refine wpAny_bind (wpAny_seqItems J_ rfl ?_)
 show wpAny _ _ (Builtin.SmallTypes.ownedTupleIsFree (.ref z) >>= _) _ _ _
 refine wpAny_bind ?_
 unfold Builtin.SmallTypes.ownedTupleIsFree
 refine wpAny_bind (wpAny_field hz rfl (x:=.none) rfl (wpAny_pure ?_))
 simp only [if_true]
 refine wpAny_bind (wpAny_rule ?_)
 refine wpAny_bind (wpAny_field hz rfl (x:=.ref TO) rfl ?_)
 refine wpAny_bind (wpAny_setField_rec hz (by simp) fun h₁ DO DQ=>?_)
 replace DO:IsZip h₁ z TI TO .ellipsis:=DO
 refine wpAny_bind ?_
 simp only [List.zipIdx_cons,List.zipIdx_nil,List.forIn_cons,List.forIn_nil]
 have f1:∀ {m h h' c},c∉oN→S1 m h→Heap.SameBut c h h'→S1 m h':=fun {m h h' c} hc st sb=>(p1.draws A hh).frame m h h' st fun b hb o e=>sb.extBut b o (fun q=>hc (q▸hb)) e
 have f2:∀ {m h h' c},c∉nK→S2 m h→Heap.SameBut c h h'→S2 m h':=fun {m h h' c} hc st sb=>(p2.draws A hh).frame m h h' st fun b hb o e=>sb.extBut b o (fun q=>hc (q▸hb)) e
 refine wpAny_bind (wpAny_bind (wpAny_onRaise ?_))
 show wpAny _ _ (Builtin.SmallTypes.nextOf (.ref i1) >>= _) _ _ _
 refine wpAny_bind ((p1.draws _ hh).item k _ _ _ hx (f1 D.z1 h1 DQ) fun x h₂ tk₂ px h1₂ ou=>wpAny_pure ?_)
 replace ou:Heap.SameBut i1 h₁ h₂:=ou
 have E_:IsPair h₂ TO a b:=ou.extBut _ _ D.TOi1 (DQ.extBut _ _ D.TOz Ka)
 refine wpAny_bind (wpAny_seqItems E_ rfl ?_)
 refine wpAny_bind (wpAny_updateSeq_pair E_ fun h₃ Kb x4=>?_)
 replace Kb:IsPair h₃ TO x b:=Kb
 replace x4:Heap.SameBut TO h₂ h₃:=x4
 refine wpAny_bind (wpAny_letGo (wpAny_pure ?_))
 refine wpAny_bind (wpAny_bind (wpAny_onRaise ?_))
 show wpAny _ _ (Builtin.SmallTypes.nextOf (.ref i2) >>= _) _ _ _
 refine wpAny_bind ((p2.draws _ hh).item k _ _ _ hy (f2 D.O2 (f2 D.x2 (f2 D.z2 h2 DQ) ou) x4) fun y h₄ tk₄ py h2₄ IL=>wpAny_pure ?_)
 replace IL:Heap.SameBut i2 h₃ h₄:=IL
 have U0:IsPair h₄ TO x b:=IL.extBut _ _ D.TOi2 Kb
 refine wpAny_bind (wpAny_seqItems U0 rfl ?_)
 refine wpAny_bind (wpAny_updateSeq_pair U0 fun h₅ Kc IM=>?_)
 replace Kc:IsPair h₅ TO x y:=Kc
 replace IM:Heap.SameBut TO h₄ h₅:=IM
 refine wpAny_bind (wpAny_letGo (wpAny_pure (wpAny_pure ?_)))
 refine wpAny_bind (wpAny_seqItems Kc rfl ?_)
 refine wpAny_bind (wpAny_newTuple ?_)
 have hsz:h₅.objs.size=s.heap.objs.size:=by rw [IM.1,IL.1,x4.1,ou.1,DQ.1]
 have hz₅:IsZip h₅ z TI TO .ellipsis:=IM.extBut _ _ D.TOz.symm (IL.extBut _ _ D.i2z.symm (x4.extBut _ _ D.TOz.symm (ou.extBut _ _ D.i1z.symm DO)))
 have hk₅:∀ c o,c≠z→c≠TO→c≠i1→c≠i2→s.heap.get? c=some o→h₅.get? c=some o:=fun c o c1 c2 c3 c4 e =>
  IM.extBut _ _ c2 (IL.extBut _ _ c4 (x4.extBut _ _ c2 (ou.extBut _ _ c3 (DQ.extBut _ _ c1 e))))
 have h1₅:S1 (k+1) h₅:=f1 D.O1 (f1 D.x1 (f1 D.O1 h1₂ x4) IL) IM
 have h2₅:S2 (k+1) h₅:=f2 D.O2 h2₄ IM
 have U1:z < h₅.objs.size:=fq hz₅
 show wpAny _ _ (Builtin.SmallTypes.ownedTupleHandOut (.ref z) (.ref h₅.objs.size) >>= _) _ _ _
 refine wpAny_bind ?_
 unfold Builtin.SmallTypes.ownedTupleHandOut
 have hz₆:IsZip (h₅.push { cls:=.type "tuple",data:=.seq #[x,y] }) z TI TO .ellipsis:=fH _ hz₅
 refine wpAny_bind (wpAny_setField_rec hz₆ (by simp) fun h₇ hz₇ hs₇=>?_)
 replace hz₇:IsZip h₇ z TI TO (rawInt h₅.objs.size):=hz₇
 refine wpAny_setField_rec hz₇ (by simp) fun h₈ Yb hs₈=>?_
 replace Yb:IsZip h₈ z TI TO (rawInt h₅.objs.size):=Yb
 have up:∀ c o,c≠z→h₅.get? c=some o→h₈.get? c=some o:=fun c o c1 e=>hs₈.extBut _ _ c1 (hs₇.extBut _ _ c1 (fH _ e))
 have hT₈:IsPair h₈ h₅.objs.size x y:=hs₈.extBut _ _ (BC U1) (hs₇.extBut _ _ (BC U1) (mZ _ rfl))
 have hz8:h₈.objs.size=h₅.objs.size+1:=by rw [hs₈.1,hs₇.1,DY]
 have h1₈:S1 (k+1) h₈:=(p1.draws A hh).frame _ _ _ h1₅ fun b hb o e=>up b o (fun q=>D.z1 (q▸hb)) e
 have h2₈:S2 (k+1) h₈:=(p2.draws A hh).frame _ _ _ h2₅ fun b hb o e=>up b o (fun q=>D.z2 (q▸hb)) e
 rw [hsz] at Yb hT₈ hz8
 refine wpAny_pure ⟨_,rfl,?_⟩
 show Q (.ref h₅.objs.size) _
 rw [hsz]
 exact hQ x y h₈ tk₄ px py Yb (up _ _ D.TOz Kc) h1₈ h2₈ hT₈ hz8 fun c o c1 c2 c3 c4 e=>up c o c1 (hk₅ c o c1 c2 c3 c4 e)
theorem Ke {k:Nat} {a b:Value} {Q:PySem.Fin→Shared→Prop} (hh:A.handled=none) (D:Apart z TI TO i1 i2 oN nK) (p1:Part prog w i1 oN n1 P1 S1) (p2:Part prog w i2 nK n2 P2 S2)
  (hz:IsZip s.heap z TI TO .none) (J_:IsPair s.heap TI (.ref i1) (.ref i2)) (Ka:IsPair s.heap TO a b) (h1:S1 k s.heap) (h2:S2 k s.heap) (PY:k=n1∨(k < n1∧k=n2))
  (hE:∀ h' tk e,(∀ c o,c≠z→c≠TO→c≠i1→c≠i2→s.heap.get? c=some o→h'.get? c=some o)→(∃ o,h'.get? e=some o∧o.cls = .type "StopIteration")→E (.ref e) { s with heap:=h',toks:=tk }) :
  wpAny (model prog w) A (Builtin.«zip.__next__» ⟨[.ref z],[]⟩) Q E s:=by
 have f1:∀ {m h h' c},c∉oN→S1 m h→Heap.SameBut c h h'→S1 m h':=fun {m h h' c} hc st sb=>(p1.draws A hh).frame m h h' st fun b hb o e=>sb.extBut b o (fun q=>hc (q▸hb)) e
 have f2:∀ {m h h' c},c∉nK→S2 m h→Heap.SameBut c h h'→S2 m h':=fun {m h h' c} hc st sb=>(p2.draws A hh).frame m h h' st fun b hb o e=>sb.extBut b o (fun q=>hc (q▸hb)) e
 show wpAny _ _ (field (.ref z) 2 >>= _) _ _ _
 refine wpAny_bind (wpAny_field hz rfl (x:=.bool false) rfl ?_)
 show wpAny _ _ (field (.ref z) 3 >>= _) _ _ _
 refine wpAny_bind (wpAny_field hz rfl (x:=.ref TI) rfl ?_)
 refine wpAny_bind (wpAny_seqItems J_ rfl ?_)
 show wpAny _ _ (Builtin.SmallTypes.ownedTupleIsFree (.ref z) >>= _) _ _ _
 refine wpAny_bind ?_
 unfold Builtin.SmallTypes.ownedTupleIsFree
 refine wpAny_bind (wpAny_field hz rfl (x:=.none) rfl (wpAny_pure ?_))
 simp only [if_true]
 refine wpAny_bind (wpAny_rule ?_)
 refine wpAny_bind (wpAny_field hz rfl (x:=.ref TO) rfl ?_)
 refine wpAny_bind (wpAny_setField_rec hz (by simp) fun h₁ DO DQ=>?_)
 replace DO:IsZip h₁ z TI TO .ellipsis:=DO
 refine wpAny_bind ?_
 simp only [List.zipIdx_cons,List.zipIdx_nil,List.forIn_cons,List.forIn_nil]
 refine wpAny_bind (wpAny_bind (wpAny_onRaise ?_))
 show wpAny _ _ (Builtin.SmallTypes.nextOf (.ref i1) >>= _) _ _ _
 rcases PY with rfl | ⟨il,rfl⟩
 · refine wpAny_bind ((p1.draws _ hh).done _ _ _ (f1 D.z1 h1 DQ) fun h₂ e ou he=>?_)
   obtain ⟨oe,PZ,U2⟩:=he
   have Yc:IsZip h₂ z TI TO .ellipsis:=ou _ _ D.i1z.symm DO
   have hez:e≠z:=fun x=>by subst x; rw [Yc] at PZ; cases PZ; simp at U2
   refine wpAny_setField_rec Yc (by simp) fun h₃ _ x4=>hE h₃ _ e (fun c o c1 _ c3 _ x=>x4.extBut _ _ c1 (ou _ _ c3 (DQ.extBut _ _ c1 x))) ⟨oe,x4.extBut _ _ hez PZ,U2⟩
 · refine wpAny_bind ((p1.draws _ hh).item k _ _ _ il (f1 D.z1 h1 DQ) fun x h₂ tk₂ px h1₂ ou=>wpAny_pure ?_)
   replace ou:Heap.SameBut i1 h₁ h₂:=ou
   have E_:IsPair h₂ TO a b:=ou.extBut _ _ D.TOi1 (DQ.extBut _ _ D.TOz Ka)
   refine wpAny_bind (wpAny_seqItems E_ rfl ?_)
   refine wpAny_bind (wpAny_updateSeq_pair E_ fun h₃ Kb x4=>?_)
   replace x4:Heap.SameBut TO h₂ h₃:=x4
   refine wpAny_bind (wpAny_letGo (wpAny_pure ?_))
   refine wpAny_bind (wpAny_bind (wpAny_onRaise ?_))
   show wpAny _ _ (Builtin.SmallTypes.nextOf (.ref i2) >>= _) _ _ _
   refine wpAny_bind ((p2.draws _ hh).done _ _ _ (f2 D.O2 (f2 D.x2 (f2 D.z2 h2 DQ) ou) x4) fun h₄ e IL he=>?_)
   obtain ⟨oe,PZ,U2⟩:=he
   have hz₄:IsZip h₄ z TI TO .ellipsis:=IL _ _ D.i2z.symm (x4.extBut _ _ D.TOz.symm (ou.extBut _ _ D.i1z.symm DO))
   have hez:e≠z:=fun x=>by subst x; rw [hz₄] at PZ; cases PZ; simp at U2
   refine wpAny_setField_rec hz₄ (by simp) fun h₅ _ IM=>hE h₅ _ e (fun c o c1 c2 c3 c4 x=>IM.extBut _ _ c1 (IL _ _ c4 (x4.extBut _ _ c2 (ou.extBut _ _ c3 (DQ.extBut _ _ c1 x))))) ⟨oe,IM.extBut _ _ hez PZ,U2⟩
theorem m_ {k:Nat} {a b:Value} {Q:Option Value→Shared→Prop} (hh:A.handled=none) (D:Apart z TI TO i1 i2 oN nK) (p1:Part prog w i1 oN n1 P1 S1) (p2:Part prog w i2 nK n2 P2 S2)
  (hz:IsZip s.heap z TI TO .none) (J_:IsPair s.heap TI (.ref i1) (.ref i2)) (Ka:IsPair s.heap TO a b) (h1:S1 k s.heap) (h2:S2 k s.heap) (hx:k < n1) (hy:k < n2)
  (hQ:∀ x y h' tk,P1 k x→P2 k y→IsZip h' z TI TO (rawInt s.heap.objs.size)→IsPair h' TO x y→S1 (k+1) h'→S2 (k+1) h'→IsPair h' s.heap.objs.size x y→h'.objs.size=s.heap.objs.size+1 →
    (∀ c o,c≠z→c≠TO→c≠i1→c≠i2→s.heap.get? c=some o→h'.get? c=some o)→Q (some (.ref s.heap.objs.size)) { s with heap:=h',toks:=tk }):wpAny (model prog w) A (pyNext (.ref z)) Q E s:=by
 have hT:s.TypeIs (.ref z) "zip":=⟨_,hz,rfl⟩
 unfold pyNext
 exact wpAny_bind (wpAny_attempt (wpAny_callSpecial?_slot (name:=Str.ofString "__next__") hT F.slot_zip_next
  (wpAny_call_entry F.slot_zip_next hT F.entry_zip_next
    (E9 hh D p1 p2 hz J_ Ka h1 h2 hx hy fun x y h' tk q1 q2 a1 a2 a3 a4 a5 a6 a7=>wpAny_pure (hQ x y h' tk q1 q2 a1 a2 a3 a4 a5 a6 a7)) (F.args_zip_next_1 _))))
theorem oP {k:Nat} {a b:Value} {Q:Option Value→Shared→Prop} (hh:A.handled=none) (D:Apart z TI TO i1 i2 oN nK) (p1:Part prog w i1 oN n1 P1 S1) (p2:Part prog w i2 nK n2 P2 S2)
  (hz:IsZip s.heap z TI TO .none) (J_:IsPair s.heap TI (.ref i1) (.ref i2)) (Ka:IsPair s.heap TO a b) (h1:S1 k s.heap) (h2:S2 k s.heap) (PY:k=n1∨(k < n1∧k=n2))
  (hQ:∀ h' tk,(∀ c o,c≠z→c≠TO→c≠i1→c≠i2→s.heap.get? c=some o→h'.get? c=some o)→Q none { s with heap:=h',toks:=tk }):wpAny (model prog w) A (pyNext (.ref z)) Q E s:=by
 have hT:s.TypeIs (.ref z) "zip":=⟨_,hz,rfl⟩
 unfold pyNext
 refine wpAny_bind (wpAny_attempt (wpAny_callSpecial?_slot (name:=Str.ofString "__next__") hT F.slot_zip_next
  (wpAny_call_entry F.slot_zip_next hT F.entry_zip_next (Ke hh D p1 p2 hz J_ Ka h1 h2 PY fun h' tk e hk he=>?_) (F.args_zip_next_1 _))))
 obtain ⟨o,ho,hc⟩:=he
 refine wpAny_bind (wpAny_isInstance (T:="StopIteration") (b:=true) ⟨o,ho,hc⟩ isSubtype_stop ?_)
 exact wpAny_pure (hQ _ _ hk)
end
def lH (i:Int):Prop:=i.natAbs < 2 ^ 2000
theorem lH.of {i:Int} (h1 : -(10 ^ 200)≤i) (h2:i≤10 ^ 200):lH i:=by
 unfold lH
 have e:(10:Nat) ^ 200 < 2 ^ 2000:=by decide
 have:i.natAbs≤10 ^ 200:=by
  have e2:((10 ^ 200:Nat):Int)=(10:Int) ^ 200:=by rw [Int.natCast_pow]; rfl
  generalize (10:Nat) ^ 200=m at *
  rw [← e2] at h1 h2
  omega
 exact XJ this e
theorem lH.bits {i:Int} (h:lH i):Builtin.Int.intBits i≤2000:=by
 unfold Builtin.Int.intBits
 split
 · exact jw _
 · have:i.natAbs.log2 < 2000:=by
    rcases Nat.eq_zero_or_pos i.natAbs with h0 | hp
    · rw [h0]; decide
    · exact (Nat.log2_lt (BC hp)).mpr h
   omega
theorem lH.log {i:Int} (h:lH i):i.natAbs.log2 < 9000:=by
 rcases Nat.eq_zero_or_pos i.natAbs with h0 | hp
 · rw [h0]; decide
 · exact Nat.lt_trans ((Nat.log2_lt (BC hp)).mpr h) (by decide)
def Nj (i j:Int):Prop:=lH i∧lH j
def Nk (i j:Int):Prop:=j≠0∧lH j
def Nl (i j:Int):Prop:=j≠0
def Nn (i j:Int):Prop:=0≤j∧j≤1000∧lH i
section
variable {X:Cx}
theorem Kg:fu X (binaryOp .Mult) (rI Nj fun i j=>.int (i * j)):=MP fun _ _ _ _ _ _ _ hc q =>
 mul_int q (IntMulOk.of_bits (k0 hc.1.bits (by decide)) (k0 hc.2.bits (by decide)))
theorem Fb:fu X (binaryOp .FloorDiv) (rI Nk fun i j=>.int (i.fdiv j)):=MP fun _ _ _ _ _ _ _ hc q=>floordiv_int hc.1 q (.inl (PyProof.noPylong_of_log2 hc.2.log))
theorem Kh:fu X (binaryOp .Mod) (rI Nl fun i j=>.int (i.fmod j)):=MP fun _ _ _ _ _ _ _ hc q=>mod_int' hc q
theorem Ki:fu X (binaryOp .Pow) (rI Nn fun i j=>.int (i ^ j.toNat)):=MP fun i j _ _ _ _ _ hc q=>pow_int hc.1 (by
 have h1:=hc.2.2.bits
 have h2:=hc.2.1
 have h0:=hc.1
 have e:(2:Int) ^ 27=134217728:=by decide
 have:(Builtin.Int.intBits i:Int) * j≤2000 * 1000:=Int.mul_le_mul (by omega) h2 h0 (by decide)
 omega) q
end
def Fc (x y:T) (q:Rt→Prop):Prop:=match x,y with
 | .int i,.int j=>(lH i∧lH j)∧q (.vw (.int (i * j)))
 | _,_=>False
theorem Fd {K:KFr}:ow K (rI Nj fun i j=>.int (i * j)) Fc:=by
 intro Z tm O ρ σ H x y v w q Q I h1 h2 h k
 unfold Fc at h
 split at h
 · exact ⟨_,_,h1.int,h2.int,h.1,k _ h.2 _ H (aN.refl H) ⟨I,bb⟩⟩
 · exact h.elim
def Fe (x y:T) (q:Rt→Prop):Prop:=match x,y with
 | .int i,.int j=>(j≠0∧lH j)∧q (.vw (.int (i.fdiv j)))
 | _,_=>False
theorem Ff {K:KFr}:ow K (rI Nk fun i j=>.int (i.fdiv j)) Fe:=by
 intro Z tm O ρ σ H x y v w q Q I h1 h2 h k
 unfold Fe at h
 split at h
 · exact ⟨_,_,h1.int,h2.int,h.1,k _ h.2 _ H (aN.refl H) ⟨I,bb⟩⟩
 · exact h.elim
def Fg (x y:T) (q:Rt→Prop):Prop:=match x,y with
 | .int i,.int j=>(j≠0)∧q (.vw (.int (i.fmod j)))
 | _,_=>False
theorem Fh {K:KFr}:ow K (rI Nl fun i j=>.int (i.fmod j)) Fg:=by
 intro Z tm O ρ σ H x y v w q Q I h1 h2 h k
 unfold Fg at h
 split at h
 · exact ⟨_,_,h1.int,h2.int,h.1,k _ h.2 _ H (aN.refl H) ⟨I,bb⟩⟩
 · exact h.elim
def Fj (x y:T) (q:Rt→Prop):Prop:=match x,y with
 | .int i,.int j=>(0≤j∧j≤1000∧lH i)∧q (.vw (.int (i ^ j.toNat)))
 | _,_=>False
theorem Fl {K:KFr}:ow K (rI Nn fun i j=>.int (i ^ j.toNat)) Fj:=by
 intro Z tm O ρ σ H x y v w q Q I h1 h2 h k
 unfold Fj at h
 split at h
 · exact ⟨_,_,h1.int,h2.int,h.1,k _ h.2 _ H (aN.refl H) ⟨I,bb⟩⟩
 · exact h.elim
section
variable {X:Cx} {Z:Zc} {a b:Expr} {fa fb:FE} {pos:Pos}
theorem nL (ha:VR X Z a fa) (hb:VR X Z b fb):VP X Z (.BinOp a .Mult b pos) (f2 fa fb Fc):=fW Kg Fd ha hb
theorem vX (ha:VR X Z a fa) (hb:VR X Z b fb):VP X Z (.BinOp a .FloorDiv b pos) (f2 fa fb Fe):=fW Fb Ff ha hb
theorem AU (ha:VR X Z a fa) (hb:VR X Z b fb):VP X Z (.BinOp a .Mod b pos) (f2 fa fb Fg):=fW Kh Fh ha hb
theorem tJ (ha:VR X Z a fa) (hb:VR X Z b fb):VP X Z (.BinOp a .Pow b pos) (f2 fa fb Fj):=fW Ki Fl ha hb
end
def iz (v:Value) (o:Obj) (c:Heap→Prop):Prop:=∀ (prog:Program) (w:World) (A:Around) (E:Value→Shared→Prop) (s:Shared) (Q:Value→Shared→Prop),c s.heap →
 Q (.ref s.heap.objs.size) { s with heap:=s.heap.push o }→wpAny (model prog w) A (pyIter v) Q E s
theorem vY (l:Addr) (items:Array Value):iz (.ref l) { cls:=.type "list_iterator",data:=.fields #[.ref l,.int 0 0] } (fun h=>h.IsList l items):=fun _ _ _ _ _ _ h q=>wpAny_pyIter_list h q
theorem tK (l:Addr) (items:Array Value):iz (.ref l) { cls:=.type "tuple_iterator",data:=.fields #[.ref l,.int 0 0] } (fun h=>h.IsTuple l items):=fun _ _ _ _ _ _ h q=>wpAny_pyIter_tuple h q
theorem yH (x:Str) (t:Tok):iz (.str x t) { cls:=.type (strIterType x),data:=.fields #[.str x t,.int 0 0] } (fun _=>True):=fun _ _ _ _ _ _ _ q=>wpAny_pyIter_strU q
abbrev Yd (h:Heap) (o1 o2:Obj):Heap:=((h.push o1).push o2).push { cls:=.type "tuple",data:=.seq #[.ref h.objs.size,.ref (h.push o1).objs.size] }
abbrev Ye (h:Heap) (o1 o2:Obj):Heap:=(Yd h o1 o2).push { cls:=.type "tuple",data:=.seq #[.none,.none] }
abbrev P0 (h:Heap) (o1 o2:Obj):Heap:=(Ye h o1 o2).push { cls:=.type "zip",data:=.fields #[.none,.bool false,.bool false,.ref ((h.push o1).push o2).objs.size,.ref (Yd h o1 o2).objs.size] }
theorem yI {v1 v2:Value} {o1 o2:Obj} {c1 c2:Heap→Prop} (i1:iz v1 o1 c1) (i2:iz v2 o2 c2) (P4:∀ h o,c2 h→c2 (h.push o)) :
  Meets (Builtin.«zip.__new__» ⟨[.type "zip",v1,v2],[]⟩) (fun _ R s=>c1 s.heap∧c2 s.heap ∧
   R (.ok (.ret (.ref (Ye s.heap o1 o2).objs.size))) { s with heap:=P0 s.heap o1 o2 }) :=
 .of_wp fun prog w A R s h=>by
  obtain ⟨hp,g,d,tk,os⟩:=s; obtain ⟨hc1,DN,h⟩:=h
  have acd:=sub_zip
  have hC2:=P4 _ o1 DN
  have I1:∀ (A:Around) (E:Value→Shared→Prop) (Q:Value→Shared→Prop),Q (.ref hp.objs.size) ⟨hp.push o1,g,d,tk,os⟩→wpAny (model prog w) A (pyIter v1) Q E ⟨hp,g,d,tk,os⟩:=fun A E Q q=>i1 prog w A E _ Q hc1 q
  have I2:∀ (A:Around) (E:Value→Shared→Prop) (Q:Value→Shared→Prop),Q (.ref (hp.push o1).objs.size) ⟨(hp.push o1).push o2,g,d,tk,os⟩→wpAny (model prog w) A (pyIter v2) Q E ⟨hp.push o1,g,d,tk,os⟩:=fun A E Q q=>i2 prog w A E _ Q hC2 q
  wp_walk using I1,I2
  exact ⟨_,rfl,h⟩
section
variable {prog:Program} {w:World} {A:Around} {E:Value→Shared→Prop} {s:Shared}
theorem B' {v1 v2:Value} {o1 o2:Obj} {c1 c2:Heap→Prop} {Q:Value→Shared→Prop} (i1:iz v1 o1 c1) (i2:iz v2 o2 c2) (P4:∀ h o,c2 h→c2 (h.push o)) (h1:c1 s.heap) (h2:c2 s.heap) (hf1:o1.isFreed=false) (hf2:o2.isFreed=false)
  (h:∀ h',IsZip h' (s.heap.objs.size+4) (s.heap.objs.size+2) (s.heap.objs.size+3) .none→IsPair h' (s.heap.objs.size+2) (.ref s.heap.objs.size) (.ref (s.heap.objs.size+1)) →
    IsPair h' (s.heap.objs.size+3) .none .none→h'.get? s.heap.objs.size=some o1→h'.get? (s.heap.objs.size+1)=some o2→h'.objs.size=s.heap.objs.size+5 →
    (∀ c o,s.heap.get? c=some o→h'.get? c=some o)→Q (.ref (s.heap.objs.size+4)) { s with heap:=h' }) :
  wpAny (model prog w) A (call (.type "zip") [v1,v2]) Q E s:=by
 refine callType_new F.called_zip (by decide) (F.typeCall_zip_2 _ _) (F.newCall_zip_2 _ _) (fun obj=>F.args_object_init_3 obj _ _) F.entry_zip_new
  (yI i1 i2 P4) ⟨h1,h2,?_⟩
 have z1:(s.heap.push o1).objs.size=s.heap.objs.size+1:=DY ..
 have z2:((s.heap.push o1).push o2).objs.size=s.heap.objs.size+2:=by rw [DY,z1]
 have z3:(Yd s.heap o1 o2).objs.size=s.heap.objs.size+3:=by rw [DY,z2]
 have z4:(Ye s.heap o1 o2).objs.size=s.heap.objs.size+4:=by rw [DY,z3]
 have z5:(P0 s.heap o1 o2).objs.size=s.heap.objs.size+5:=by rw [DY,z4]
 have g5:(P0 s.heap o1 o2).get? (Ye s.heap o1 o2).objs.size=some _:=mZ _ rfl
 have g4:(P0 s.heap o1 o2).get? (Yd s.heap o1 o2).objs.size=some _:=fH _ (mZ _ rfl)
 have g3:(P0 s.heap o1 o2).get? ((s.heap.push o1).push o2).objs.size=some _:=fH _ (fH _ (mZ _ rfl))
 have g2:(P0 s.heap o1 o2).get? (s.heap.push o1).objs.size=some _:=fH _ (fH _ (fH _ (mZ _ hf2)))
 have g1:(P0 s.heap o1 o2).get? s.heap.objs.size=some _:=fH _ (fH _ (fH _ (fH _ (mZ _ hf1))))
 show _∧_
 rw [z2,z3,z4] at g5
 rw [z1,z2] at g3
 rw [z3] at g4
 rw [z1] at g2
 rw [z4]
 exact ⟨⟨_,g5,rfl⟩,h _ g5 g3 g4 g1 g2 z5 fun c o x =>
  fH _ (fH _ (fH _ (fH _ (fH _ x))))⟩
end
structure Ca (P:Program) (w:World) (K:KFr) (i:Addr) (fp:List Addr) (sq:Hp→List V→Prop) (it:Nat→Heap→Prop):Prop where
 part:∀ (X:Cx) (pins:List (Addr×Obj)) (σ:St) (H:Hp) (s:Shared),X.prog=P→X.w=w→X.K=K→Inv X pins σ H s→∀ xs,sq H xs →
  ∃ (Pv:Nat→Value→Prop) (S:Nat→Heap→Prop),Part P w i fp xs.length Pv S∧(∀ k v,Pv k v→∃ x,xs[k]?=some x∧RelV x v)∧(∀ k h,S k h→it k h)∧∀ k,it k s.heap→S k s.heap
 keep:∀ k h h',it k h→(∀ o,h.get? i=some o→h'.get? i=some o)→it k h'
 obj:∀ k h,it k h→∃ o,h.get? i=some o∧∀ v,o.data≠.cell v
 inj:∀ (X:Cx) (pins:List (Addr×Obj)) (σ:St) (H:Hp) (s:Shared),X.K=K→Inv X pins σ H s→∀ xs ys,sq H xs→sq H ys→xs=ys
theorem src_list {P:Program} {w:World} {K:KFr} (i l:Addr) (eK:l≠i):Ca P w K i [i,l] (fun H xs=>fA K H l xs) (fun k h=>h.IsListIter i l k) where
 part:=fun X pins σ H s hP hw hK I xs hq=>by
  subst hP hw hK
  obtain ⟨aP,rv,p,hz⟩:=I.list hq
  have e:aP.toArray.size=xs.length:=by simp [rv.length]
  refine ⟨_,_,e▸B_ i l eK aP.toArray,fun k v hv=>?_,fun k h st=>st.1,fun k st=>⟨st,p.isList⟩⟩
  have vt:aP[k]?=some v:=by simpa using hv
  have hk:k < xs.length:=by rw [← e]; simp; exact (fG.mp vt).1
  obtain ⟨u,hu,ru⟩:=rv.get (show xs[k]?=some xs[k] by simp)
  rw [vt] at hu
  cases hu
  exact ⟨_,by simp,ru⟩
 keep:=fun k h h' st q=>st.at q
 obj:=fun k h st=>let ⟨o,e,_,d⟩:=st; ⟨o,e,fun v z=>by rw [d] at z; cases z⟩
 inj:=fun X pins σ H s hK I xs ys h1 h2=>by subst hK; exact I.j7 h1 h2
theorem src_tuple {P:Program} {w:World} {K:KFr} (i l:Addr) (eK:l≠i):Ca P w K i [i,l] (fun H xs=>dG K H l xs) (fun k h=>h.IsTupleIter i l k) where
 part:=fun X pins σ H s hP hw hK I xs hq=>by
  subst hP hw hK
  obtain ⟨aP,rv,p,hz⟩:=I.tuple hq
  have e:aP.toArray.size=xs.length:=by simp [rv.length]
  refine ⟨_,_,e▸yG i l eK aP.toArray,fun k v hv=>?_,fun k h st=>st.1,fun k st=>⟨st,p⟩⟩
  have vt:aP[k]?=some v:=by simpa using hv
  have hk:k < xs.length:=by rw [← e]; simp; exact (fG.mp vt).1
  obtain ⟨u,hu,ru⟩:=rv.get (show xs[k]?=some xs[k] by simp)
  rw [vt] at hu
  cases hu
  exact ⟨_,by simp,ru⟩
 keep:=fun k h h' st q=>let ⟨o,e,r⟩:=st; ⟨o,q o e,r⟩
 obj:=fun k h st=>let ⟨o,e,_,d⟩:=st; ⟨o,e,fun v z=>by rw [d] at z; cases z⟩
 inj:=fun X pins σ H s hK I xs ys h1 h2=>by subst hK; exact I.i6 h1 h2
def yJ (x:Str):List V:=x.cps.toList.map fun c=>.str ⟨#[c]⟩
theorem Kj {P:Program} {w:World} {K:KFr} (i:Addr) (x:Str) (t:Tok):Ca P w K i [i] (fun _ xs=>xs=yJ x) (fun k h=>h.IsStrIter i (strIterType x) x t k) where
 part:=fun X pins σ H s hP hw hK I xs hq=>by
  subst hP hw hK hq
  have e:x.cps.size=(yJ x).length:=by unfold yJ; simp
  refine ⟨_,_,e▸E8 i x t,fun k v hv=>?_,fun k h st=>st,fun k st=>st⟩
  obtain ⟨c,u,h1,rfl⟩:=hv
  exact ⟨.str ⟨#[c]⟩,by unfold yJ; rw [i4]; simp [h1],u,rfl⟩
 keep:=fun k h h' st q=>let ⟨o,e,r⟩:=st; ⟨o,q o e,r⟩
 obj:=fun k h st=>let ⟨o,e,_,d⟩:=st; ⟨o,e,fun v z=>by rw [d] at z; cases z⟩
 inj:=fun X pins σ H s hK I xs ys h1 h2=>by rw [h1,h2]
section
variable {X:Cx} {pins:List (Addr×Obj)} {σ:St} {H H':Hp} {s:Shared} {h':Heap}
theorem Kk {t':Nat} {ch:List Addr} (I:Inv X pins σ H s) (k:∀ b u,b∉ch→s.heap.get? b=some u→h'.get? b=some u) (hf:∀ b∈ch,k5 X pins H b):Inv X pins σ H { s with heap:=h',toks:=t' }:=by
 have D':∀ b u,H b=some u→b∉ch:=fun b u e z=>by rw [(hf b z).1] at e; cases e
 refine I.step (g':=s.gens) (d':=s.drawn) (ch:=ch) (fun b hb=>?_) (fun b u _ _ hc e _=>k b u hc e) (fun b u _ _ hc e _=>⟨u.slots,k b u hc e⟩) (fun b u _ e n=>n) (fun b u hc e=>⟨u,k b u hc e⟩)
  (fun b xs e=>e) (fun b u v e=>e) (fun b ps e=>⟨#[],?_⟩) (fun m hm=>?_) (fun b u e=>?_) I.bare
 · obtain ⟨_,f1,_,f3,f4,f5⟩:=hf b hb
   exact ⟨f3,f1,f4,f5⟩
 · rw [e]; simp
 · obtain ⟨ob,es,ep,ho,r⟩:=hm
   exact ⟨ob,es,ep,k _ ob (fun z=>(hf _ z).2.1 rfl) ho,r⟩
 · refine (I.cg b u e).x9 (fun c v hc q=>k c v ?_ q) (fun c q=>q) fun c xs q=>q
   rcases hc with z | z
   · rw [z]; exact D' b u e
   · exact D' c _ z
end
def Itz (yK yL:Hp→List V→Prop):It :=
 ⟨fun i H=>∃ xs ys,yK H xs∧yL H ys∧i < xs.length∧i < ys.length,fun i H v H'=>∃ t x y,H t=none∧v = .ref t∧(∀ xs,yK H xs→xs[i]?=some x)∧(∀ ys,yL H ys→ys[i]?=some y)∧H'=upd H t (.tup [x,y]),
   fun i H=>∃ xs ys,yK H xs∧yL H ys∧(i=xs.length∨(i < xs.length∧i=ys.length))⟩
theorem Fm {P:Program} {w:World} {K:KFr} {elts:List Expr} {x1} {tp:Pos} {z TI TO i1 i2:Addr} {oN nK:List Addr} {yK yL:Hp→List V→Prop} {t1 t2:Nat→Heap→Prop} (D:Apart z TI TO i1 i2 oN nK) (p1:Ca P w K i1 oN yK t1) (p2:Ca P w K i2 nK yL t2) :
  Turn P w K (.Tuple elts x1 tp) (Itz yK yL) [z,TI,TO,i1,i2] z (fun i h=>IsZip h z TI TO .none∧IsPair h TI (.ref i1) (.ref i2)∧(∃ a b,IsPair h TO a b)∧t1 i h∧t2 i h) where
 mem:=by simp
 obj:=fun i h st b hb=>by
  obtain ⟨h1,h2,⟨a,c,h3⟩,h4,h5⟩:=st
  simp only [cY,gK,or_false] at hb
  rcases hb with rfl | rfl | rfl | rfl | rfl
  · exact ⟨_,h1,fun v q=>by cases q⟩
  · exact ⟨_,h2,fun v q=>by cases q⟩
  · exact ⟨_,h3,fun v q=>by cases q⟩
  · exact p1.obj i h h4
  · exact p2.obj i h h5
 keep:=fun i h h' st k=>by
  obtain ⟨h1,h2,⟨a,c,h3⟩,h4,h5⟩:=st
  exact ⟨k z (by simp) _ h1,k TI (by simp) _ h2,⟨a,c,k TO (by simp) _ h3⟩,p1.keep i h h' h4 fun o q=>k i1 (by simp) o q,p2.keep i h h' h5 fun o q=>k i2 (by simp) o q⟩
 item:=by
  intro X hP hw hK hc i pins s σ H E I hf st hg
  obtain ⟨xs,ys,Yf,SO,l1,l2⟩:=hg
  obtain ⟨h1,h2,⟨a,c,h3⟩,h4,h5⟩:=st
  obtain ⟨P1,S1,q1,v1,b1,f1⟩:=p1.part X pins σ H s hP hw hK I xs Yf
  obtain ⟨P2,S2,q2,v2,b2,f2⟩:=p2.part X pins σ H s hP hw hK I ys SO
  refine m_ (I.ok.hd hc) D q1 q2 h1 h2 h3 (f1 i h4) (f2 i h5) l1 l2 fun x y h₁ tk px py DO ace s1 s2 hp₁ hsz hk=>?_
  obtain ⟨x',ex,rx⟩:=v1 i x px
  obtain ⟨y',ey,ry⟩:=v2 i y py
  refine ⟨_,rfl,wpAny_letOwnedTupleGo_zip DO fun h₂ Yc ou=>?_⟩
  have ka:Heap.SameBut z h₁ h₂:=ou
  have il:z < s.heap.objs.size:=fq h1
  have Uw:s.heap.objs.size≠z:=BC il
  have kk:∀ b ob,b∉[z,TI,TO,i1,i2]→s.heap.get? b=some ob→h₂.get? b=some ob:=fun b ob hb q=>by
   simp only [cY,gK,or_false,not_or] at hb
   exact (ka.2 b hb.1).trans (hk b ob hb.1 hb.2.2.1 hb.2.2.2.1 hb.2.2.2.2 q)
  have new:cw X.prog X.w (upd H s.heap.objs.size (.tup [x',y'])) h₂ s.heap.objs.size (.tup [x',y']) :=
   ⟨by show 2≤sizeLine; rw [sizeLine_eq]; decide,[x,y],.cons rx (.cons ry .nil),⟨_,(ka.2 _ Uw).trans hp₁,rfl,_,rfl⟩⟩
  refine ⟨.ref s.heap.objs.size,upd H s.heap.objs.size (.tup [x',y']),I.grown (t':=tk) kk hf (dm _) new,rfl,⟨_,x',y',I.fresh,rfl,fun zs hz=>by rw [p1.inj X pins σ H s hK I _ _ hz Yf]; exact ex,fun zs hz=>by rw [p2.inj X pins σ H s hK I _ _ hz SO]; exact ey,rfl⟩,⟨Yc,?_,⟨x,y,?_⟩,?_,?_⟩,fun b hb=>?_⟩
  · exact (ka.2 TI D.TIz).trans (hk TI _ D.TIz D.TITO D.TIi1 D.TIi2 h2)
  · exact (ka.2 TO D.TOz).trans ace
  · exact p1.keep _ _ _ (b1 _ _ s1) fun o q=>(ka.2 i1 D.i1z).trans q
  · exact p2.keep _ _ _ (b2 _ _ s2) fun o q=>(ka.2 i2 D.i2z).trans q
  · have SK:b < s.heap.objs.size:=by
     simp only [cY,gK,or_false] at hb
     rcases hb with rfl | rfl | rfl | rfl | rfl
     · exact il
     · exact fq h2
     · exact fq h3
     · obtain ⟨o,e,_⟩:=p1.obj i _ h4; exact fq e
     · obtain ⟨o,e,_⟩:=p2.obj i _ h5; exact fq e
    rw [aA (j4 SK)]
    exact (hf b hb).1
 done:=by
  intro X hP hw hK hc i pins s σ H E I hf st hg
  obtain ⟨xs,ys,Yf,SO,he⟩:=hg
  obtain ⟨h1,h2,⟨a,c,h3⟩,h4,h5⟩:=st
  obtain ⟨P1,S1,q1,v1,b1,f1⟩:=p1.part X pins σ H s hP hw hK I xs Yf
  obtain ⟨P2,S2,q2,v2,b2,f2⟩:=p2.part X pins σ H s hP hw hK I ys SO
  refine oP (I.ok.hd hc) D q1 q2 h1 h2 h3 (f1 i h4) (f2 i h5) he fun h' tk hk=>⟨rfl,?_⟩
  refine Kk (t':=tk) I (fun b u hb q=>?_) hf
  simp only [cY,gK,or_false,not_or] at hb
  exact hk b u hb.1 hb.2.2.1 hb.2.2.2.1 hb.2.2.2.2 q
 self:=fun _ _ _ _ _ st h=>by
  obtain ⟨h1,_⟩:=st
  exact wpAny_pyIter_zip h1 h
inductive ZK (K:KFr) (H:Hp):V→(Hp→List V→Prop)→Prop where
 | lst {a:Addr} {xs:List V}:fA K H a xs→ZK K H (.ref a) (fun H xs=>fA K H a xs)
 | tup {a:Addr} {xs:List V}:dG K H a xs→ZK K H (.ref a) (fun H xs=>dG K H a xs)
 | str (z:Str):ZK K H (.str z) (fun _ xs=>xs=yJ z)
theorem Np {X:Cx} {pins:List (Addr×Obj)} {σ:St} {H:Hp} {s:Shared} {x:V} {u:Value} {sq:Hp→List V→Prop} (I:Inv X pins σ H s) (z:ZK X.K H x sq) (r:RelV x u) :
  ∃ (o:Obj) (c:Heap→Prop) (fp:List Addr) (it:Addr→Nat→Heap→Prop),iz u o c∧c s.heap∧(∀ h o,c h→c (h.push o))∧o.isFreed=false∧(∀ b∈fp,b < s.heap.objs.size) ∧
   ∀ i,s.heap.objs.size≤i→Ca X.prog X.w X.K i (i :: fp) sq (it i)∧∀ h,h.get? i=some o→it i 0 h:=by
 cases z with
 | lst hq =>
   rename_i a xs
   cases r
   obtain ⟨aP,rv,p,hz⟩:=I.list hq
   have hl:a < s.heap.objs.size:=by obtain ⟨o,n,e,_⟩:=p; exact fq e
   refine ⟨_,_,[a],fun i k h=>h.IsListIter i a k,vY a aP.toArray,p.isList,fun h o q=>Heap.IsList.push q _,rfl,fun b hb=>by rw [kZ.mp hb]; exact hl,fun i hi=>⟨src_list i a (j4 (rg hl hi)),fun h e=>⟨_,e,rfl,rfl⟩⟩⟩
 | tup hq =>
   rename_i a xs
   cases r
   obtain ⟨aP,rv,p,hz⟩:=I.tuple hq
   have hl:a < s.heap.objs.size:=by obtain ⟨o,e,_⟩:=p; exact fq e
   refine ⟨_,_,[a],fun i k h=>h.IsTupleIter i a k,tK a aP.toArray,p,fun h o q=>(let ⟨o',e,r⟩:=q; ⟨o',fH _ e,r⟩),rfl,fun b hb=>by rw [kZ.mp hb]; exact hl,fun i hi=>⟨src_tuple i a (j4 (rg hl hi)),fun h e=>⟨_,e,rfl,rfl⟩⟩⟩
 | str z =>
   obtain ⟨t,rfl⟩:=r
   refine ⟨_,_,[],fun i k h=>h.IsStrIter i (strIterType z) z t k,yH z t,trivial,fun _ _ _=>trivial,rfl,fun b hb=>?_,fun i hi=>⟨Kj i z t,fun h e=>⟨_,e,rfl,rfl⟩⟩⟩
   cases hb
theorem nn {a b:Nat} (h:a < b):a≠b:=j4 h
theorem Fp {n:Nat} {oN nK:List Addr} (h1:∀ b∈oN,b < n) (h2:∀ b∈nK,b < n):Apart (n+4) (n+2) (n+3) n (n+1) (n :: oN) ((n+1) :: nK):=by
 have k1:∀ b:Nat,n < b→b∉(n :: oN):=fun b hb m=>by
  rcases cY.mp m with q | q
  · exact BC hb q
  · exact DG _ (Nat.lt_trans hb (h1 b q))
 have k2:∀ b:Nat,n+1 < b→b∉((n+1) :: nK):=fun b hb m=>by
  rcases cY.mp m with q | q
  · exact BC hb q
  · exact DG _ (Nat.lt_trans (Nat.lt_trans (DW n) hb) (h2 b q))
 have k3:n∉((n+1) :: nK):=fun m=>by
  rcases cY.mp m with q | q
  · exact j4 (DW n) q
  · exact DG _ (h2 n q)
 exact ⟨nn (by omega),nn (by omega),nn (by omega),nn (by omega),nn (by omega),(nn (by omega)).symm,(nn (by omega)).symm,(nn (by omega)).symm,(nn (by omega)).symm,nn (by omega),k1 _ (by omega),k2 _ (by omega),k1 _ (by omega),k2 _ (by omega),k1 _ (by omega),k3⟩
theorem Kl {n c:Nat} (h:c∈[n+4,n+2,n+3,n,n+1]):n≤c:=by
 simp only [cY,gK,or_false] at h
 omega
def acf (K:KFr) (ta:TA):TI:=fun σ H R=>ta σ H fun vs H1=>∃ x y yK yL,vs=[x,y]∧ZK K H1 x yK∧ZK K H1 y yL∧R (Itz yK yL) H1
section
variable {X:Cx} {Z:Zc}
theorem boot_zip:bootBuiltins "zip" = some (.type "zip"):=by decide +kernel
theorem P5 {elts:List Expr} {x1} {tp:Pos} {a b:Expr} {ta:TA} {p pos:Pos} (hg:Gl X "zip") (hm:X.mg "zip" = none) (ha:PA X [a,b] ta) (hs:starEach [a,b] X.env=[(false,eval a X.env),(false,eval b X.env)]) (rn:starEach [b] X.env=[(false,eval b X.env)]) :
  PI X (.Tuple elts x1 tp) (.Call (.Name "zip" p) [a,b] [] pos) (acf X.K ta):=by
 intro pins s σ H R I h
 refine Call_ (ip I hg hm boot_zip (Sw (cm (ha pos pins s σ H _ I h) fun us s1 ⟨vs,H1,I1,r1,q1⟩=>?_) (by rw [hs,rn]) (by rw [rn]; rfl)))
 obtain ⟨x,y,yK,yL,e,k1,k2,q⟩:=q1
 subst e
 obtain ⟨u,w',rfl,ru,rw'⟩:=vals2 r1
 obtain ⟨o1,c1,oN,t1,i1,hc1,hp1,hf1,SQ,z1⟩:=Np I1 k1 ru
 obtain ⟨o2,c2,nK,t2,i2,DN,P4,hf2,Cb,z2⟩:=Np I1 k2 rw'
 refine B' i1 i2 P4 hc1 DN hf1 hf2 fun h' hz J_ Ka g1 g2 hsz hk=>?_
 have I2:Inv X pins σ H1 { s1 with heap:=h' }:=I1.kept (t':=s1.toks) hk
 refine wpAny_pyIter_zip hz ?_
 obtain ⟨S1,a1⟩:=z1 s1.heap.objs.size (dm _)
 obtain ⟨S2,a2⟩:=z2 (s1.heap.objs.size+1) (Ot _)
 have D:Apart (s1.heap.objs.size+4) (s1.heap.objs.size+2) (s1.heap.objs.size+3) s1.heap.objs.size (s1.heap.objs.size+1) (s1.heap.objs.size :: oN) ((s1.heap.objs.size+1) :: nK):=by
  exact Fp SQ Cb
 refine ⟨s1.heap.objs.size+4,_,_,_,H1,rfl,I2,Fm D S1 S2,⟨hz,J_,⟨_,_,Ka⟩,a1 _ g1,a2 _ g2⟩,fun c hc=>?_,q⟩
 have hge:s1.heap.objs.size≤c:=Kl hc
 exact I1.m4 hge (I1.cg.fresh hge)
def P6:T→Option (List T)
 | .lst ts=>some ts
 | .tup ts=>some ts
 | .str z=>some (z.cps.toList.map fun c=>.str ⟨#[c]⟩)
 | _=>none
def tM (xs ys:List T):List T:=List.zipWith (fun a b=>.tup [a,b]) xs ys
def acg (fa fb:FE):FI:=fun ρ Q=>fa ρ fun x=>fb ρ fun y=>match P6 x,P6 y with
 | some xs,some ys=>Q (tM xs ys)
 | _,_=>False
theorem Nq {K:KFr} {H:Hp} {A:List Addr} {x:T} {v:V} {xs:List T} (h:At K H A x v) (e:P6 x=some xs):∃ sq,ZK K H v sq∧∀ H A,At K H A x v→∃ vs,sq H vs∧az K H A xs vs:=by
 cases x with
 | lst ts =>
   cases e
   simp only [At] at h
   obtain ⟨a,vs,rfl,l,q⟩:=h
   refine ⟨_,.lst l.sq,fun H A h=>?_⟩
   simp only [At] at h
   obtain ⟨a',kc,e,l',q'⟩:=h
   cases e
   exact ⟨kc,l'.sq,q'⟩
 | tup ts =>
   cases e
   simp only [At] at h
   obtain ⟨a,vs,rfl,l,q⟩:=h
   refine ⟨_,.tup l,fun H A h=>?_⟩
   simp only [At] at h
   obtain ⟨a',kc,e,l',q'⟩:=h
   cases e
   exact ⟨kc,l',q'⟩
 | str z =>
   cases e
   simp only [At] at h
   subst h
   refine ⟨_,.str z,fun H A h=>⟨yJ z,rfl,?_⟩⟩
   unfold yJ
   generalize z.cps.toList=l
   induction l with
   | nil=>exact az.nil
   | cons c l ih=>exact az.cons cP ih
 | _=>cases e
theorem P7 {K:KFr} {x y:T} {v w:V} {xs ys:List T} {yK yL:Hp→List V→Prop} (h1:∀ H A,At K H A x v→∃ vs,yK H vs∧az K H A xs vs) (h2:∀ H A,At K H A y w→∃ vs,yL H vs∧az K H A ys vs) :
  Wk K (Itz yK yL) [(x,v),(y,w)] (tM xs ys):=fun H A hA h i=>by
 obtain ⟨vs,q1,l1⟩:=h1 H A (h _ c6)
 obtain ⟨ws,q2,l2⟩:=h2 H A (h _ (eB _ c6))
 have e1:=l1.length
 have e2:=l2.length
 have el:(tM xs ys).length=min xs.length ys.length:=by unfold tM; rw [XF]
 rw [el]
 refine ⟨fun hi=>⟨vs,ws,q1,q2,by omega,by omega⟩,fun hi=>⟨vs,ws,q1,q2,by omega⟩,fun t ht x H' y=>?_⟩
 obtain ⟨p,a,b,hp,rfl,ha,hb,rfl⟩:=y
 unfold tM at ht
 rw [List.getElem?_zipWith] at ht
 cases ex:xs[i]? with
 | none=>rw [ex] at ht; cases ht
 | some tx =>
   cases ey:ys[i]? with
   | none=>rw [ex,ey] at ht; cases ht
   | some ty =>
     rw [ex,ey] at ht
     cases ht
     obtain ⟨v1,g1,g2⟩:=l1.get ex
     obtain ⟨v2,g3,g4⟩:=l2.get ey
     have z1:=ha vs q1
     have z2:=hb ws q2
     rw [g1] at z1
     rw [g3] at z2
     cases z1
     cases z2
     exact ⟨aG hp,bX (dG.of aI) (az.cons (g2.same (aG hp)) (az.cons (g4.same (aG hp)) az.nil))⟩
theorem P8 {elts:List Expr} {x1} {tp p pos:Pos} {a b:Expr} {fa fb:FE} (hg:Gl X "zip") (hm:X.mg "zip" = none) (ha:VE X Z a fa) (hb:VE X Z b fb)
  (hs:starEach [a,b] X.env=[(false,eval a X.env),(false,eval b X.env)]:=by rfl) (rn:starEach [b] X.env=[(false,eval b X.env)]:=by rfl) :
  VI X Z (.Tuple elts x1 tp) (.Call (.Name "zip" p) [a,b] [] pos) (acg fa fb):=.mk fun tm =>
 PI.weak (P5 hg hm (bw (ha tm) (bw (hb tm) cO rn) (by rw [hs,rn])) hs rn) fun σ H R ⟨ρ,O,q,I,hf,k⟩=>⟨ρ,O,_,I,hf,fun x hx v H1 s1 a1=>⟨ρ,O,_,I.same s1,hx,fun y hy w H2 s2 a2=>by
  split at hy
  · rename_i xs ys e1 e2
    obtain ⟨yK,k1,w1⟩:=Nq (a1.same s2) e1
    obtain ⟨yL,k2,w2⟩:=Nq a2 e2
    exact ⟨v,w,yK,yL,rfl,k1,k2,k _ hy _ H2 _ (s1.trans s2) (fun p hp=>by
     rcases cY.mp hp with e | hp
     · rw [e]; exact a1.same s2
     · rw [kZ.mp hp]; exact a2) (P7 w1 w2)⟩
  · exact hy.elim⟩⟩
end
end VT
namespace HE
open PySem PySem.W PySem.Calls PyProof.Rows
noncomputable def nM (tb:String→Option Builtin) (p:Program) (w:World) (n₀:Nat) (ann:Option Value):Nat→SharedT→Thread→Option SharedT
 | 0,_,_=>none
 | n+1,s,t=>match through t with
   | true=>some s
   | false=>match stepOk n₀ ann t with
     | false=>none
     | true=>match stepT (denote tb) p w s t with
       | some (s',t')=>nM tb p w n₀ ann n s' t'
       | none=>none
theorem rO {tb:String→Option Builtin} {p:Program} {w:World} {n₀:Nat} {ann:Option Value}:∀ {n:Nat} {s s':SharedT} {t:Thread},nM tb p w n₀ ann n s t=some s'→topRun tb p w n₀ ann n s.abs t=some s'.abs
 | 0,_,_,_,h=>by cases h
 | n+1,s,s',t,h=>by
   unfold nM at h
   unfold topRun
   cases ht:through t with
   | true=>rw [ht] at h; cases h; rfl
   | false =>
     rw [ht] at h
     cases hk:stepOk n₀ ann t with
     | false=>rw [hk] at h; cases h
     | true =>
       rw [hk] at h
       cases hs:stepT (denote tb) p w s t with
       | none=>rw [hs] at h; cases h
       | some r=>obtain ⟨s₂,t₂⟩:=r; rw [hs] at h; rw [stepT_spec hs]; exact rO h
noncomputable def mkT (l:List Obj):BT:=(l.foldl (fun (p:BT×Nat) o=>(p.1.ins p.2 o,p.2+1)) (.nil,0)).1
noncomputable def dM (P:Params):BT:=mkT (boot_heap P).objs.toList
noncomputable def st0 (T:BT) (os:OsState):SharedT:=⟨T,11,{},Array.mk [],boot_drawn,boot_toks,os⟩
theorem boot_abs (P:Params):absHeap (dM P) 11 {}=boot_heap P:=by kernel_rfl
theorem Cc (P:Params):((boot_heap P).isNs mainGlobals,(boot_heap P).objs.size,(boot_heap P).nsMap mainGlobals "__annotations__")=(true,11,some (.ref 6)):=by kernel_rfl
noncomputable def P9 (p:Program) (T:BT) (w:World) (M:Nat) (os:OsState):Option SharedT:=nM treeTable p w 11 (some (.ref 6)) M (st0 T os) (topStub p)
noncomputable def Kf (as:List Addr) (g:Addr→Option Obj):Frag:=as.filterMap fun a=>(g a).map fun o=>(a,o)
noncomputable def tg (T:BT) (n:Nat) (a:Addr):Option Obj:=match Nat.blt a n with
 | true=>alive ((T.get a).getD default)
 | false=>none
theorem U3 (T:BT) (n:Nat) (life:Life) (a:Addr):(absHeap T n life).get? a=tg T n a:=by
 unfold tg
 cases h:Nat.blt a n with
 | true =>
   have hn:a < n:=Nat.ble_eq.mp h
   cases g:T.get a with
   | some o=>rw [abs_get hn g]; rfl
   | none =>
     have e:=absHeap_at T n life a
     rw [if_pos hn,g] at e
     unfold Heap.get?
     rw [e]
     rfl
 | false =>
   have hn:¬ a < n:=fun z=>by
    have:Nat.blt a n=true:=Nat.ble_eq.mpr z
    rw [h] at this; cases this
   exact abs_get_none hn
abbrev Km (q:Program) (lv:List (Str×WData)) (R:WRecords) (s:Shared):Bool:=xlAt q lv s && recOk R s
noncomputable def lookA (p q:Program) (loose:List Str) (lv:List (Str×WData)) (R:WRecords) (T:BT) (H0:Heap) (w:World) (M:Nat) (os:OsState) :=
 (P9 p T w M os).map fun s=>((staticsOk (importedModules p.main.body) H0 s.abs.heap && namesBound p s.abs.heap && gensDone s.abs && laidKept H0 s.abs.heap),
   (openSeen q loose (importedModules p.main.body) (Km q lv R) true s.abs).1,(openSeen q loose (importedModules p.main.body) (Km q lv R) true s.abs).2.1)
noncomputable def lookB (p q:Program) (loose:List Str) (lv:List (Str×WData)) (R:WRecords) (T:BT) (w:World) (M:Nat) (os:OsState) :=
 (P9 p T w M os).map fun s=>(openSeen q loose (importedModules p.main.body) (Km q lv R) true s.abs).2.2
noncomputable def lookC {β:Type} (p:Program) (as:List Addr) (F:Frag→β) (T:BT) (w:World) (M:Nat) (os:OsState) :=
 (P9 p T w M os).map fun s=>F (Kf as (tg s.tree s.n))
noncomputable def tO (p:Program) (N:Nat) (w:World) (a:Addr):Option Obj:=(openEnds treeTable p w N).bind (·.heap.get? a)
theorem head {p q:Program} {loose:List Str} {lv:List (Str×WData)} {R:WRecords} {as:List Addr} {N M:Nat} {β:Type} {F:Frag→β} {v:World→β}
  (e:opening p=plainProg p.main.scope.names) (hN:Nat.ble 600 N=true) (f:∀ s,fenceModules? p s=some s) (le:Nat.ble M N=true)
  (ra:∀ (w:World) (os:OsState),lookA p q loose lv R (dM w.params) (boot_heap w.params) w M os=some (true,(openGood q loose).1,(openGood q loose).2.1))
  (rb:∀ (w:World) (os:OsState),lookB p q loose lv R (dM w.params) w M os=some (openGood q loose).2.2)
  (rc:∀ (w:World) (os:OsState),lookC p as F (dM w.params) w M os=some (v w)) :
  LeftO p q loose (Km q lv R) (fun s=>as.map s.heap.get?) (fun w=>as.map (tO p N w)) N∧∀ w,F (Kf as (tO p N w))=v w:=by
 have key:∀ w,∃ s,openEnds treeTable p w N=some s∧openSeen q loose (importedModules p.main.body) (Km q lv R) true s=openGood q loose∧F (Kf as s.heap.get?)=v w:=fun w=>by
  obtain ⟨⟨h,gs,d,k,os⟩,e1,e2⟩:=Tc.mp (boot_open e hN f w)
  obtain ⟨rfl,rfl,rfl,rfl⟩:h=boot_heap w.params∧gs=Array.mk []∧d=boot_drawn∧k=boot_toks:=by simpa using e2
  obtain ⟨s,r1,r2⟩:=Tc.mp (ra w os)
  obtain ⟨s',r1',rb'⟩:=Tc.mp (rb w os)
  obtain ⟨T3,ach,rc'⟩:=Tc.mp (rc w os)
  obtain rfl:s=s':=Option.some.inj (r1.symm.trans r1')
  obtain rfl:s=T3:=Option.some.inj (r1.symm.trans ach)
  have r3:=congrArg (fun x=>x.1) r2
  have r4:openSeen q loose (importedModules p.main.body) (Km q lv R) true s.abs=openGood q loose:=Prod.ext (congrArg (fun x=>x.2.1) r2) (Prod.ext (congrArg (fun x=>x.2.2) r2) rb')
  have r5:F (Kf as s.abs.heap.get?)=v w:=by
   rw [show s.abs.heap.get?=tg s.tree s.n from funext fun a=>U3 _ _ _ a]
   exact rc'
  have t1:=rO r1
  have ea:(st0 (dM w.params) os).abs=⟨boot_heap w.params,Array.mk [],boot_drawn,boot_toks,os⟩:=by
   show (⟨absHeap (dM w.params) 11 {},_,_,_,_⟩:Shared)=_
   rw [boot_abs]; rfl
  rw [ea] at t1
  have t2:=topRun_mono (N - M) _ _ _ _ t1
  rw [show M+(N - M)=N by have:=Nat.le_of_ble_eq_true le; omega] at t2
  have z:=Cc w.params
  have z1:=congrArg (fun x=>x.1) z
  have z2:=congrArg (fun x=>x.2.1) z
  have z3:=congrArg (fun x=>x.2.2) z
  refine ⟨s.abs,?_,r4,r5⟩
  unfold openEnds
  rw [e1]
  show topFrom treeTable p w N _=_
  unfold topFrom
  dsimp only at z1 z2 z3 ⊢
  rw [z1,z2,z3,t2]
  show (match staticsOk (importedModules p.main.body) (boot_heap w.params) s.abs.heap && namesBound p s.abs.heap && gensDone s.abs && laidKept (boot_heap w.params) s.abs.heap with | true=>_ | false=>_)=_
  have r3':(staticsOk (importedModules p.main.body) (boot_heap w.params) s.abs.heap && namesBound p s.abs.heap && gensDone s.abs && laidKept (boot_heap w.params) s.abs.heap)=true:=r3
  rw [r3']
 refine ⟨fun w=>?_,fun w=>?_⟩
 · obtain ⟨s,a,b,c⟩:=key w
   rw [a]
   have:tO p N w=s.heap.get?:=by funext x; unfold tO; rw [a]; rfl
   show some (openSeen q loose (importedModules p.main.body) (Km q lv R) true s,as.map s.heap.get?)=some (openGood q loose,as.map (tO p N w))
   rw [b,this]
 · obtain ⟨s,a,b,c⟩:=key w
   have:tO p N w=s.heap.get?:=by funext x; unfold tO; rw [a]; rfl
   rw [this]
   exact c
theorem kf_in {as:List Addr} {g:Addr→Option Obj} {h:Heap} (e:as.map h.get?=as.map g):(Kf as g).In h:=by
 have key:∀ {as:List Addr},as.map h.get?=as.map g→∀ a o,(Kf as g).lookup a=some o→h.get? a=some o:=by
  intro as
  induction as with
  | nil=>intro _ a o z; cases z
  | cons x as ih =>
    intro e a o z
    rw [i5,i5] at e
    injection e with e1 e2
    unfold Kf at z
    rw [mx] at z
    cases hg:g x with
    | none=>rw [hg] at z; exact ih e2 a o z
    | some o' =>
      rw [hg] at z
      simp only [Ti,IB] at z
      split at z
      · rename_i q
        have:a=x:=by simpa using q
        subst this
        cases z
        rw [e1,hg]
      · exact ih e2 a o z
 exact fun a o z=>key e a o z
theorem Fq {q:Program} {loose:List Str} {XP:(Str→Option Value)→Heap→Prop} {as:List Addr} {g:World→Addr→Option Obj} {r:RowW} {d:DefRec} {kwd:List (Str×Expr)} {run:Value→List Value→Sem Value}
  (h:WalkO q loose XP (fun w h=>(Kf as (g w)).In h) r d kwd run):WalkX q loose XP (fun s=>as.map s.heap.get?) (fun w=>as.map (g w)) r d kwd run :=
 fun w s₀ s₁ mg mb G y a o pm cd doc dV kV h1 h2 h3 h4 h5 h6 args vals JX L BX Uk hrd Uh hlo=>h w s₀ s₁ mg mb G (fun b o' z=>Laid.keeps L _ _ (kf_in y b o' z)) a o pm cd doc dV kV h1 h2 h3 h4 h5 h6 args vals JX BX Uk hrd Uh hlo
noncomputable def U4:Stmt→DefRec
 | .FunctionDef n ps b _ _ _ sc _ _ p=>⟨n,ps,b,sc,p⟩
 | _=>⟨Str.empty,default,[],default,default⟩
end HE
lay_quick HE.lookA HE.lookB HE.lookC
namespace L2
open PySem PySem.Spec PyProof.Rows
section
variable (P:Program) (w:World)
end
section
variable {P:Program} {w:World} {H H':Hp} {h h':Heap} {a:Addr} {o:HO}
end
section
variable {P:Program} {w:World} {H:Hp} {h h':Heap} {x e:Addr} {o':HO}
end
section
variable {fs YU ex YV:List Addr} {H H1 H2:Hp} {h h1 h2 h':Heap} {a x e:Addr} {o:HO}
end
section
variable {X:Cx} {pins:List (Addr×Obj)} {σ:List (Option V)} {H H':Hp} {s:Shared} {h':Heap}
end
section
variable {X:Cx}
variable {a b:Expr} {ta tb:TE} {pos:Pos}
variable {tA Tt:TT} {rest:List Expr}
end
section
variable {X:Cx} {pins:List (Addr×Obj)} {σ:St} {H:Hp} {s:Shared} {a:Addr} {xs ys:List V}
end
section
variable {X:Cx} {pins:List (Addr×Obj)} {σ:St} {H:Hp} {s:Shared} {E:Value→Shared→Prop}
end
section
variable {X:Cx} {st:Stmt} {rest:List Stmt} {t u:TS} {e:Expr} {te:TE} {pos:Pos}
end
section
variable {X:Cx} {pos:Pos}
end
section
variable {X:Cx} {pos:Pos}
end
section
variable {X:Cx} {tg:Expr}
end
section
variable {X:Cx} {a b c:Expr} {ta tb tc:TE} {pos:Pos}
end
section
variable {X:Cx} {a b c:Expr} {ta tb tc:TE} {pos:Pos}
end
section
variable {prog:Program} {w:World} {A:Around} {E:Value→Shared→Prop} {s:Shared} {K:KFr} {x dx C f:Addr} {mA:Str→Option Value} {name:Str} {v:Value}
end
section
variable {P:Program} {w:World} {H H':Hp} {h h':Heap} {a C dx:Addr} {fs YU:List (Str×V)}
end
section
variable {X:Cx} {pins:List (Addr×Obj)} {σ:St} {H:Hp} {s:Shared} {a C dx:Addr} {fs:List (Str×V)} {f:Str} {v:V} {A:Around} {E:Value→Shared→Prop}
end
section
variable {X:Cx} {o e value:Expr} {f:Str} {pos pos' fB:Pos} {ta tv:TE}
end
section
variable {X:Cx} {pins:List (Addr×Obj)} {σ:St} {H:Hp} {s:Shared} {A:Around} {E:Value→Shared→Prop} {Q:Value→Shared→Prop} {c:Value} {b:Bool}
end
section
variable {X:Cx} {e:Expr} {es:List Expr} {te:TE} {t:TA} {pos:Pos}
end
section
variable {X:Cx} {pins:List (Addr×Obj)} {σ:St} {H:Hp} {s s':Shared}
end
section
variable {X:Cx} {CX:DJ} {k:Nat} {f C:Addr} {fd:FuncData} {ps:List Str} {sp:Sp} {sJ:List V} {ds:List Value} {E:XK} {x m:Str} {p pos apos:Pos} {e o:Expr} {es:List Expr} {ta:TE} {t:TA}
end
section
variable {X:Cx} {CX:DJ} {k:Nat} {f C:Addr} {fd:FuncData} {ps ks:List Str} {sp:Sp} {E:XK} {x m:Str} {p pos apos Zm:Pos} {e o:Expr} {es:List Expr} {kws:List Keyword} {te ta:TE} {t tk:TA} {nm:Option Str}
variable {g:List Value→List Value→List Value} {gV:List V→List V→List V}
end
section
variable {X:Cx} {x:Str} {p pos:Pos} {e:Expr} {es:List Expr} {t:TA} {id T:String} {r:List V→Hp→VK→Prop}
end
section
variable {κ:Type} [DecidableEq κ]
def iA (aY:List (κ×V)) (k:κ):Option V:=(aY.find? fun kv=>decide (kv.1=k)).map (·.2)
def putK (aY:List (κ×V)) (k:κ) (v:V):List (κ×V) :=
 if (aY.any fun kv=>decide (kv.1=k))=true then aY.map (fun kv=>if kv.1=k then (kv.1,v) else kv) else aY ++ [(k,v)]
theorem km {p:κ×V} {r:List (κ×V)} {k:κ} (e:p.1=k):iA (p :: r) k=some p.2:=by simp [iA,SF,e]
theorem kn {p:κ×V} {r:List (κ×V)} {k:κ} (e:¬ p.1=k):iA (p :: r) k=iA r k:=by simp [iA,SF,e]
theorem oQ (k:κ):∀ aY:List (κ×V),(aY.any fun kv=>decide (kv.1=k))=(iA aY k).isSome
 | []=>rfl
 | p :: r=>by
   rw [IF]
   by_cases e:p.1=k
   · simp only [km e,decide_eq_true e,Bool.true_or,Option.isSome_some]
   · rw [kn e,decide_eq_false e,Bool.false_or]; exact oQ k r
theorem iB (aY:List (κ×V)) (k:κ) (v:V):(putK aY k v).length≤aY.length+1:=by
 unfold putK
 split
 · rw [cU]; omega
 · rw [uY,vb,Om]; omega
theorem Fs {aY:List (κ×V)} {k:κ} (v:V) (h:iA aY k=none):putK aY k v=aY ++ [(k,v)]:=by
 unfold putK
 rw [oQ,h]
 exact if_neg (by decide)
theorem jq.Cd {o:Option V} {u:Option Value} (r:jq o u):o.isSome=u.isSome:=by
 cases o with
 | none=>cases u with
   | none=>rfl
   | some _=>exact (show False from r).elim
 | some _=>cases u with
   | none=>exact (show False from r).elim
   | some _=>rfl
theorem jq.getD {o:Option V} {u:Option Value} {d:V} {d':Value} (r:jq o u) (rd:RelV d d'):RelV (o.getD d) (u.getD d'):=by
 cases o with
 | none=>cases u with
   | none=>exact rd
   | some _=>exact (show False from r).elim
 | some _=>cases u with
   | none=>exact (show False from r).elim
   | some _=>exact r
theorem KV.val {aY:List (κ×V)} {vs:List (κ×Value)} (r:KV aY vs) (k:κ):jq (iA aY k) (valueAt vs k):=by
 unfold KV at r
 induction r with
 | nil=>exact True.intro
 | @cons p q ps qs h t ih =>
   obtain ⟨h1,h2⟩:=h
   by_cases e:p.1=k
   · have e':q.1=k:=h1.symm.trans e
     have b:valueAt (q :: qs) k=some q.2:=by simp [valueAt,SF,e']
     rw [km e,b]; exact h2
   · have e':¬ q.1=k:=fun z=>e (h1.trans z)
     have b:valueAt (q :: qs) k=valueAt qs k:=by simp [valueAt,SF,e']
     rw [kn e,b]; exact ih
theorem KV.any {aY:List (κ×V)} {vs:List (κ×Value)} (r:KV aY vs) (k:κ):(aY.any fun kv=>decide (kv.1=k))=vs.any fun kv=>decide (kv.1=k):=by
 unfold KV at r
 induction r with
 | nil=>rfl
 | cons h t ih=>rw [IF,IF,ih,h.1]
theorem KV.P_ {aY:List (κ×V)} {vs:List (κ×Value)} (r:KV aY vs) (k:κ) {y:V} {u:Value} (ry:RelV y u) :
  KV (aY.map fun kv=>if kv.1=k then (kv.1,y) else kv) (vs.map fun kv=>if kv.1=k then (kv.1,u) else kv):=by
 unfold KV at r ⊢
 induction r with
 | nil=>exact .nil
 | @cons p q ps qs h t ih =>
   rw [i5,i5]
   refine .cons ?_ ih
   obtain ⟨h1,h2⟩:=h
   by_cases e:p.1=k
   · rw [if_pos e,if_pos (h1.symm.trans e)]; exact ⟨h1,ry⟩
   · rw [if_neg e,if_neg (fun z=>e (h1.trans z))]; exact ⟨h1,h2⟩
theorem KV.put {aY:List (κ×V)} {vs:List (κ×Value)} (r:KV aY vs) (k:κ) {y:V} {u:Value} (ry:RelV y u):KV (putK aY k y) (stored vs k u):=by
 unfold putK stored
 rw [r.any k]
 by_cases e:(vs.any fun kv=>decide (kv.1=k))=true
 · rw [if_pos e,if_pos e]; exact r.P_ k ry
 · rw [if_neg e,if_neg e]; exact Paired.snoc r ⟨rfl,ry⟩
theorem KV.length {aY:List (κ×V)} {vs:List (κ×Value)} (r:KV aY vs):aY.length=vs.length:=Paired.length r
end
theorem oR {P:Program} {w:World} {k:Key} {u:Value} (r:RelV (kV k) u):(bG P w).is k u=true:=by
 cases k with
 | inl i=>obtain ⟨t,e⟩:=(show ∃ t,u=Value.int i t from r); subst e; exact vf P w i t
 | inr x=>obtain ⟨t,e⟩:=(show ∃ t,u=Value.str x t from r); subst e; exact vg P w x t
theorem rP {P:Program} {w:World}:∀ {ks:List Key} {us:List Value},Vals (ks.map kV) us→ItemsAre (bG P w) ks us
 | [],_,r=>by rw [ME] at r; cases r; exact .nil
 | k :: ks,_,r=>by
   rw [i5] at r
   cases r with
   | cons h t=>exact .cons (oR h) (rP t)
abbrev KT (H:Hp):List (List Key×V)→List (List Key×Addr×Value)→Prop:=Paired fun p q=>p.1=q.1∧H q.2.1=some (.tup (p.1.map kV))∧RelV p.2 q.2.2
theorem KT.val {H:Hp} {aY:List (List Key×V)} {xs:List (List Key×Addr×Value)} (r:KT H aY xs) (k:List Key):jq (iA aY k) ((atKey xs k).map (·.2)):=by
 induction r with
 | nil=>exact True.intro
 | @cons p q ps qs h t ih =>
   obtain ⟨h1,_,h2⟩:=h
   by_cases e:p.1=k
   · have e':q.1=k:=h1.symm.trans e
     have b:atKey (q :: qs) k=some q.2:=by simp [atKey,SF,e']
     rw [km e,b]; exact h2
   · have e':¬ q.1=k:=fun z=>e (h1.trans z)
     have b:atKey (q :: qs) k=atKey qs k:=by simp [atKey,SF,e']
     rw [kn e,b]; exact ih
theorem KT.P_ {H:Hp} {aY:List (List Key×V)} {xs:List (List Key×Addr×Value)} (r:KT H aY xs) (k:List Key) {y:V} {u:Value} (ry:RelV y u) :
  KT H (aY.map fun kv=>if kv.1=k then (kv.1,y) else kv) (xs.map (putAt k u)):=by
 induction r with
 | nil=>exact .nil
 | @cons p q ps qs h t ih =>
   rw [i5,i5]
   refine .cons ?_ ih
   obtain ⟨h1,h2,h3⟩:=h
   unfold putAt
   by_cases e:p.1=k
   · rw [if_pos e,if_pos (h1.symm.trans e)]; exact ⟨h1,h2,ry⟩
   · rw [if_neg e,if_neg (fun z=>e (h1.trans z))]; exact ⟨h1,h2,h3⟩
theorem KT.put {H:Hp} {aY:List (List Key×V)} {xs:List (List Key×Addr×Value)} (r:KT H aY xs) (k:List Key) {b:Addr} {y:V} {u:Value} (hb:H b=some (.tup (k.map kV))) (ry:RelV y u) :
  KT H (putK aY k y) (storedH xs k b u):=by
 have e:(aY.any fun kv=>decide (kv.1=k))=(atKey xs k).isSome:=by
  rw [oQ,(r.val k).Cd,Option.isSome_map]
 unfold putK storedH
 rw [e]
 by_cases q:(atKey xs k).isSome=true
 · rw [if_pos q,if_pos q]; exact r.P_ k ry
 · rw [if_neg q,if_neg q]; exact Paired.snoc r ⟨rfl,hb,ry⟩
theorem KT.keeps {H H':Hp} {aY:List (List Key×V)} {xs:List (List Key×Addr×Value)} (r:KT H aY xs) (ht:∀ b ys,H b=some (.tup ys)→H' b=some (.tup ys)):KT H' aY xs :=
 Paired.qj r fun _ _ z=>⟨z.1,ht _ _ z.2.1,z.2.2⟩
section
variable {P:Program} {w:World} {H:Hp} {h:Heap} {a:Addr}
theorem Nr {u:HO} (ok:j3 P w H h) (e:Rd H a u):cw P w H h a u:=e.ok ok
theorem rQ {aY:List (Key×V)} (ok:j3 P w H h) (e:Rd H a (.dK aY)):aY.length≤sizeLine∧(a == sysModules)=false∧∃ vs,KV aY vs∧h.DictOf (bG P w) a vs :=
 show cw P w H h a (.dK aY) from Nr ok e
theorem AV {aY:List (Key×V)} (ok:j3 P w H h) (e:H a=some (.dK aY)):aY.length≤sizeLine∧(a == sysModules)=false∧∃ vs,KV aY vs∧h.DictOf (bG P w) a vs:=rQ ok (.inl e)
theorem tP {ks:List Key} (ok:j3 P w H h) (e:H a=some (.tup (ks.map kV))):(tupleKind (bG P w)).is h ks a:=by
 obtain ⟨_,aP,r,o,h1,h2,n,h3⟩:=(show cw P w H h a (.tup (ks.map kV)) from ok a _ e)
 exact ⟨o,aP.toArray,n,h1,h2,h3,by simpa using rP r⟩
theorem vZ {aY:List (List Key×V)} (ok:j3 P w H h) (e:Rd H a (.dT aY)):aY.length≤sizeLine∧(a == sysModules)=false ∧
  ∃ xs,KT H aY xs∧h.DictOfH (tupleKind (bG P w)) a xs:=by
 obtain ⟨z,y,xs,r,o,es,ep,h1,h2,h3,h4,h5⟩:=(show cw P w H h a (.dT aY) from Nr ok e)
 refine ⟨z,y,xs,r,o,es,ep,h1,h2,h3,h4,fun x hx=>?_,h5⟩
 have all:∀ {l:List (List Key×V)} {m:List (List Key×Addr×Value)},KT H l m→∀ x∈m,(tupleKind (bG P w)).is h x.1 x.2.1:=by
  intro l m q
  induction q with
  | nil=>intro x hx; exact nomatch hx
  | @cons p q ps qs hq t ih =>
    intro x hx
    rcases cY.mp hx with e | hx
    · subst e
      exact tP ok (by rw [← hq.1]; exact hq.2.1)
    · exact ih x hx
 exact all r x hx
theorem U5 {aY:List (List Key×V)} (ok:j3 P w H h) (e:H a=some (.dT aY)):aY.length≤sizeLine∧(a == sysModules)=false ∧
 ∃ xs,KT H aY xs∧h.DictOfH (tupleKind (bG P w)) a xs:=vZ ok (.inl e)
end
def tQ (H:Hp) (a:Addr) (y:V) (r:Option V):Prop :=
 (∃ aY k,Rd H a (.dK aY)∧y=kV k∧r=iA aY k)∨∃ aY k b,Rd H a (.dT aY)∧y = .ref b∧H b=some (.tup (k.map kV))∧r=iA aY k
def Ce (H:Hp) (a:Addr) (y v:V) (H':Hp):Prop :=
 (∃ aY k,H a=some (.dK aY)∧y=kV k∧aY.length < sizeLine∧H'=upd H a (.dK (putK aY k v))) ∨
 ∃ aY k b,H a=some (.dT aY)∧y = .ref b∧H b=some (.tup (k.map kV))∧aY.length < sizeLine∧H'=upd H a (.dT (putK aY k v))
theorem tQ.k {H:Hp} {a:Addr} {aY:List (Key×V)} {k:Key} (e:H a=some (.dK aY)):tQ H a (kV k) (iA aY k):=.inl ⟨aY,k,.inl e,rfl,rfl⟩
theorem Ce.k {H:Hp} {a:Addr} {aY:List (Key×V)} {k:Key} {v:V} (e:H a=some (.dK aY)) (hl:aY.length < sizeLine):Ce H a (kV k) v (upd H a (.dK (putK aY k v))):=.inl ⟨aY,k,e,rfl,hl,rfl⟩
section
variable {X:Cx} {pins:List (Addr×Obj)} {σ:St} {H:Hp} {s:Shared} {a:Addr} {y v:V} {u r:Value} {o:Option V} {A:Around} {E:Value→Shared→Prop}
theorem Inv.big (I:Inv X pins σ H s):sysModules < s.heap.objs.size:=by
 have h:mainGlobals < s.heap.objs.size:=(I.mod.glob.keeps I.bk).lt
 exact Nat.lt_trans (by decide) h
theorem Cf {Q:Value→Shared→Prop} (hu:A.units+1 < cLine) (I:Inv X pins σ H s) (g:tQ H a y (some v)) (ry:RelV y u) (h:∀ w' s',Inv X pins σ H s'→RelV v w'→Q w' s') :
  wpAny (model X.prog X.w) A (getItem (.ref a) u) Q E s:=by
 rcases g with ⟨aY,k,e,ey,l⟩ | ⟨aY,k,b,e,ey,eb,l⟩
 · subst ey
   obtain ⟨z,hd,vs,rel,dd⟩:=rQ I.cg e
   obtain ⟨w',hw,rw'⟩:=jq.some_of (v:=v) (o:=valueAt vs k) (by rw [l]; exact rel.val k)
   exact wpAny_getItem_of (oR ry) dd.mapOf hw (h w' _ (I.tok _) rw')
 · subst ey
   cases (show u=Value.ref b from ry)
   obtain ⟨z,hd,xs,rel,dd⟩:=vZ I.cg e
   obtain ⟨w',hw,rw'⟩:=jq.some_of (v:=v) (o:=(atKey xs k).map (·.2)) (by rw [l]; exact rel.val k)
   obtain ⟨p,hp,P4⟩:=Tc.mp hw
   refine wpAny_getItem_heap (tupleKind_room_in1 hu) (tP I.cg eb) dd hp ?_
   rw [P4]
   exact h w' _ (I.tok _) rw'
theorem tR {h':Heap} {t':Nat} {ob:HO} (I:Inv X pins σ H s) (mu:Tn (H a)) (hs:Heap.SameBut a s.heap h') (he:∃ q,h'.get? a=some q) (new:cw X.prog X.w (upd H a ob) h' a ob) :
  Inv X pins σ (upd H a ob) { s with heap:=h',toks:=t' } :=
 I.write (x:=a) (e:=a) mu (.inl rfl) (fun b q hb z=>(hs.2 b hb).trans z) he new
theorem Ft {P:Program} {w:World} {H':Hp} {h':Heap} {aY:List (Key×V)} {vs:List (Key×Value)} (z:aY.length≤sizeLine) (hd:(a == sysModules)=false) (rel:KV aY vs) (dd:h'.DictOf (bG P w) a vs) :
 cw P w H' h' a (.dK aY):=⟨z,hd,vs,rel,dd⟩
theorem Cg {H':Hp} {Q:Unit→Shared→Prop} (hu:A.units+1 < cLine) (I:Inv X pins σ H s) (g:Ce H a y v H') (ry:RelV y u) (rv:RelV v r) (h:∀ s',Inv X pins σ H' s'→Q () s') :
  wpAny (model X.prog X.w) A (setItem (.ref a) u r) Q E s:=by
 rcases g with ⟨aY,k,e,ey,l,eH⟩ | ⟨aY,k,b,e,ey,eb,l,eH⟩
 · subst ey eH
   obtain ⟨z,hd,vs,rel,dd⟩:=AV I.cg e
   have hz:vs.length≤sizeLine:=by rw [← rel.length]; exact z
   have hl:(putK aY k v).length≤sizeLine:=by have:=iB aY k v; omega
   refine wpAny_setItem_pairs (hsz:=hz) (oR ry) dd fun h' Ci hs=>h _ ?_
   have he:∃ q,h'.get? a=some q:=let ⟨q,_,_,hq,_⟩:=Ci; ⟨q,hq⟩
   exact tR I (by rw [e]; exact True.intro) hs he (Ft hl hd (rel.put k rv) Ci)
 · subst ey eH
   cases (show u=Value.ref b from ry)
   obtain ⟨z,hd,xs,rel,dd⟩:=U5 I.cg e
   have hz:xs.length≤sizeLine:=by rw [← Paired.length rel]; exact z
   have hl:(putK aY k v).length≤sizeLine:=by have:=iB aY k v; omega
   refine wpAny_setItem_heap (hsz:=hz) (tupleKind_room_in1 hu) (tP I.cg eb) dd fun h' Ci hs=>h _ ?_
   obtain ⟨q,es,ep,hq,h2,h3,h4,_,h5⟩:=Ci
   refine tR I (by rw [e]; exact True.intro) hs ⟨q,hq⟩ ⟨hl,hd,_,(rel.put k eb rv).keeps fun c ys ec=>?_,q,es,ep,hq,h2,h3,h4,h5⟩
   rw [aA (DZ ec e (fun z=>nomatch z))]
   exact ec
end
section
variable {X:Cx} {pins:List (Addr×Obj)} {σ:St} {H:Hp} {s:Shared} {a:Addr} {aY:List (Key×V)} {k:Key} {u:Value} {A:Around} {E:Value→Shared→Prop}
theorem U6 {Q:Value→Shared→Prop} (I:Inv X pins σ H s) (e:Rd H a (.dK aY)) (h:∀ t s',Inv X pins σ H s'→Q (.int aY.length t) s'):wpAny (model X.prog X.w) A (call (.builtin "len") [.ref a]) Q E s:=by
 obtain ⟨z,hd,vs,rel,dd⟩:=rQ I.cg e
 refine call_len_dict hd dd (by rw [← rel.length]; rw [sizeLine_eq] at z; omega) ?_
 rw [← rel.length]
 exact h _ _ (I.tok _)
end
def Kn (i:Expr):Prop:=∀ ov iv,subscripted i false ov iv=operate [ov,iv] (getItem ov iv)
theorem AW {prog:Program} {w:World} {A:Around} {E:Value→Shared→Prop} {s:Shared} {env:Env} {value slice:Expr} {pos:Pos} {T id:String} {Q:Value→Shared→Prop}
  (hl:typeLookup (.type T) "__getitem__" = pure (some (.builtin id))) (hs:Kn slice)
  (h:wpAny (model prog w) A (eval value env) (fun o s₁=>wpAny (model prog w) A (eval slice env) (fun i s₂=>s₂.TypeIs o T∧wpAny (model prog w) A (getItem o i) Q E s₂) E s₁) E s) :
  wpAny (model prog w) A (eval (.Subscript value slice pos) env) Q E s:=by
 refine Subscript_ (wpAny_mono h (fun o s₁ h₁=>wpAny_mono h₁ (fun i s₂ h₂=>?_) fun _ _ x=>x) fun _ _ x=>x)
 obtain ⟨hT,h₂⟩:=h₂
 unfold subscriptTail
 refine wpAny_bind ?_
 rw [getitemInPython_of_ne hT.not_modules]
 refine wpAny_bind (wpAny_specialOf hT hl ?_)
 have fin:wpAny (model prog w) A (subscripted slice false o i) (fun r s₃=>wpAny (model prog w) A (letTemporaryGo value o r >>= fun _=>pure r) Q E s₃) E s₂:=by
  rw [hs o i]
  exact wpAny_operating (wpAny_mono h₂ (fun r s₃ h₃=>wpAny_bind (wpAny_letTemporaryGo (wpAny_pure h₃))) fun _ _ x=>x)
 first
  | exact wpAny_pure (wpAny_bind fin)
  | exact wpAny_bind (wpAny_pure (wpAny_bind fin))
  | exact wpAny_bind fin
theorem v5 {X:Cx} {pins:List (Addr×Obj)} {σ:St} {H:Hp} {s:Shared} {a:Addr} {y:V} {o:Option V} (I:Inv X pins σ H s) (g:tQ H a y o):s.TypeIs (.ref a) "dict":=by
 rcases g with ⟨aY,k,e,_,_⟩ | ⟨aY,k,b,e,_,_,_⟩
 · obtain ⟨_,_,vs,_,dd⟩:=rQ I.cg e
   exact dd.typeIs
 · obtain ⟨_,_,xs,_,dd⟩:=vZ I.cg e
   exact dd.typeIs
def U7 (td ty:TE):TE:=fun σ H Q=>td σ H fun x H1=>ty σ H1 fun y H2=>∃ a v,x = .ref a∧tQ H2 a y (some v)∧Q v H2
def U8 (td ty tv:TE):TS:=fun D σ H=>tv σ H fun v H1=>td σ H1 fun x H2=>ty σ H2 fun y H3=>∃ a H4,x = .ref a∧Ce H3 a y v H4∧D.nx σ H4
section
variable {X:Cx} {o i e value:Expr} {pos pos' fB:Pos} {td ty tv:TE}
theorem Ko (hu:X.A.units+1 < cLine) (ho:PE X o td) (hi:PE X i ty) (hs:Kn i):PE X (.Subscript o i pos) (U7 td ty):=by
 intro pins s σ H Q I h
 refine AW PySem.F.slot_dict_getitem.lookup hs (cm (ho pins s σ H _ I h) fun u s1 ⟨x,H1,I1,rx,q1⟩=>cm (hi pins s1 σ H1 _ I1 q1) fun iv s2 ⟨y,H2,I2,ry,a,v,ex,g,q2⟩=>?_)
 subst ex
 obtain rfl:u=Value.ref a:=rx
 exact ⟨v5 I2 g,Cf hu I2 g ry fun w' s3 I3 rw'=>⟨v,H2,I3,rw',q2⟩⟩
theorem AX (hu:X.A.units+1 < cLine) (ho:PE X o td) (hi:PE X i ty) (hv:PE X value tv) (hs:swapsWith value (some (.Subscript o i pos')) pos.line X.env=pure false) :
  PS X (.Assign [.Subscript o i pos'] value pos) (U8 td ty tv):=by
 intro pins s σ H D I h
 refine wpAny_Assign_Subscript (cm (hv pins s σ H _ I h) fun r s1 ⟨v,H1,I1,rv,q1⟩=>cm (ho pins s1 σ H1 _ I1 q1) fun u s2 ⟨x,H2,I2,rx,q2⟩=>cm (hi pins s2 σ H2 _ I2 q2) fun iv s3 ⟨y,H3,I3,ry,a,H4,ex,g,q3⟩=>?_) hs
 subst ex
 obtain rfl:u=Value.ref a:=rx
 exact Cg hu I3 g ry rv fun s4 I4=>⟨σ,H4,I4,q3⟩
end
theorem Fu {P:Program} {w:World} {H:Hp} (h:Heap) (hb:sysModules < h.objs.size):cw P w H (h.push { cls:=.type "dict",data:=.dict #[] }) h.objs.size (.dK []) :=
 ⟨jw _,beq_eq_false_iff_ne.mpr (Ne.symm (j4 hb)),[],.nil,Heap.DictOf.new h⟩
def P':TE:=fun _ H Q=>∀ p,H p=none→Q (.ref p) (upd H p (.dK []))
section
variable {X:Cx} {pos:Pos}
theorem oS:PE X (.Dict [] [] pos) P':=fun pins s σ H Q I h =>
 wpAny_Dict_empty ⟨.ref s.heap.objs.size,_,I.laid (a:=s.heap.objs.size) (o:=.dK []) (t':=s.toks) (fun _ _ q=>fH _ q) (dm _) (Fu s.heap I.big),rfl,h _ (I.cg.fresh (dm _))⟩
end
abbrev VV:List (V×V)→List (Value×Value)→Prop:=Paired fun p q=>RelV p.1 q.1∧RelV p.2 q.2
structure M1 (X:Cx) (o:Expr) (m:Str) (apos:Pos) (e:Expr) (aW:Pos):Prop where
 base:attributeBase o m X.env (eval o X.env)=eval o X.env
 few:((backTo aW (starEach [e] X.env)).all (fun x=>!x.1) && (backToKw aW (keywordEach [] X.env)).all (fun x=>x.1.isSome)
  && decide (([e]:List Expr).length+([]:List Keyword).length+(if ([]:List Keyword).isEmpty then 0 else 1) < 30))=true
 line:(apos.endLine == aW.line)=true
 trees:backTo aW (starEach [e] X.env)=[(false,eval e X.env)]
structure M2 (X:Cx) (o:Expr) (m:Str) (apos:Pos) (e f:Expr) (aW:Pos):Prop where
 base:attributeBase o m X.env (eval o X.env)=eval o X.env
 few:((backTo aW (starEach [e,f] X.env)).all (fun x=>!x.1) && (backToKw aW (keywordEach [] X.env)).all (fun x=>x.1.isSome)
  && decide (([e,f]:List Expr).length+([]:List Keyword).length+(if ([]:List Keyword).isEmpty then 0 else 1) < 30))=true
 line:(apos.endLine == aW.line)=true
 trees:backTo aW (starEach [e,f] X.env)=[(false,eval e X.env),(false,eval f X.env)]
def IsD (H:Hp) (a:Addr):Prop:=(∃ aY,Rd H a (.dK aY))∨∃ aY,Rd H a (.dT aY)
theorem Qa {X:Cx} {pins:List (Addr×Obj)} {σ:St} {H:Hp} {s:Shared} {a:Addr} (I:Inv X pins σ H s) (d:IsD H a) :
  s.TypeIs (.ref a) "dict"∧(∀ b,Value.ref a = .ref b→∃ ob,s.heap.get? b=some ob∧ob.dict=none)∧(a == sysModules)=false:=by
 rcases d with ⟨aY,e⟩ | ⟨aY,e⟩
 · obtain ⟨_,hd,vs,_,dd⟩:=rQ I.cg e
   refine ⟨dd.typeIs,fun b q=>?_,hd⟩
   cases q
   obtain ⟨ob,_,_,h1,h2,_⟩:=dd
   exact ⟨ob,h1,h2.2.1⟩
 · obtain ⟨_,hd,xs,_,dd⟩:=vZ I.cg e
   refine ⟨dd.typeIs,fun b q=>?_,hd⟩
   cases q
   obtain ⟨ob,_,_,h1,h2,_⟩:=dd
   exact ⟨ob,h1,h2.2.1⟩
section
variable {X:Cx} {pins:List (Addr×Obj)} {σ:St} {H:Hp} {s:Shared} {a:Addr} {y d:V} {u r:Value} {o:Option V} {A:Around} {E:Value→Shared→Prop}
theorem Qb {Q:Value→Shared→Prop} (hu:A.units+1 < cLine) (I:Inv X pins σ H s) (g:tQ H a y o) (ry:RelV y u) (rd:RelV d r) (h:∀ w' s',Inv X pins σ H s'→RelV (o.getD d) w'→Q w' s') :
  wpAny (model X.prog X.w) A (call (.builtin "dict.get") [.ref a,u,r]) Q E s:=by
 rcases g with ⟨aY,k,e,ey,l⟩ | ⟨aY,k,b,e,ey,eb,l⟩
 · subst ey
   obtain ⟨z,hd,vs,rel,dd⟩:=rQ I.cg e
   refine call_meetsIn Td dd.typeIs YN (YL _ _ _) (meets_dict_get_default (bG X.prog X.w) a (oR ry) hd r) ⟨_,dd.mapOf,h _ _ (I.tok _) ?_⟩
   rw [l]
   exact (rel.val k).getD rd
 · subst ey
   cases (show u=Value.ref b from ry)
   obtain ⟨z,hd,xs,rel,dd⟩:=vZ I.cg e
   refine call_meetsIn Td dd.typeIs YN (YL _ _ _) (meetsH_dict_get_default (tupleKind (bG X.prog X.w)) a b hd r) ⟨tupleKind_room_in1 hu,k,xs,tP I.cg eb,dd,h _ _ (I.tok _) ?_⟩
   rw [l]
   exact (rel.val k).getD rd
end
def Qc (td ty tx:TE):TE:=fun σ H Q=>td σ H fun x H1=>∃ a,x = .ref a∧IsD H1 a∧ty σ H1 fun y H2=>tx σ H2 fun z H3=>∃ o,tQ H3 a y o∧Q (o.getD z) H3
section
variable {X:Cx} {o e f:Expr} {apos aW:Pos} {td ty tx:TE}
theorem Fv (hu:X.A.units+1 < cLine) (ho:PE X o td) (he:PE X e ty) (hf:PE X f tx) (m:M2 X o "get" apos e f aW):PE X (.Call (.Attribute o "get" apos) [e,f] [] aW) (Qc td ty tx):=by
 intro pins s σ H Q I h
 refine wpAny_Call_method m.base m.few m.line Xz Td PySem.F.type_dict_get (cm (ho pins s σ H _ I h) fun u s1 ⟨x,H1,I1,rx,a,ex,d,q1⟩=>?_)
 subst ex
 obtain rfl:u=Value.ref a:=rx
 obtain ⟨t1,t2,_⟩:=Qa I1 d
 refine ⟨t1,t2,?_⟩
 rw [m.trees]
 refine XA rfl (Calls.evalArgs_plain (Tf (cm (he pins s1 σ H1 _ I1 q1) fun iv s2 ⟨y,H2,I2,ry,q2⟩ =>
  Tf (cm (hf pins s2 σ H2 _ I2 q2) fun fv s3 ⟨z,H3,I3,rz,ov,g,q3⟩=>Calls.spliced_nil ?_))))
 exact Qb hu I3 g ry rz fun w' s4 I4 rw'=>⟨_,H3,I4,rw',q3⟩
end
section
variable {X:Cx} {pins:List (Addr×Obj)} {σ:St} {H:Hp} {s:Shared} {a:Addr} {aY:List (Key×V)} {A:Around} {E:Value→Shared→Prop}
end
section
variable {X:Cx} {pins:List (Addr×Obj)} {σ:St} {H:Hp} {s:Shared} {a:Addr} {y:V} {u:Value} {A:Around} {E:Value→Shared→Prop}
end
end L2
namespace XZ
open PySem PySem.W PySem.Calls PyProof.Rows
section
variable {prog:Program} {w:World} {A:Around} {E:Value→Shared→Prop} {s:Shared} {K:Frag}
end
end XZ
namespace L2
open PySem PySem.Spec PyProof.Rows
section
variable {P:Program} {w:World} {K:KFr} {mg:Str→Option Value} {base:Heap}
end
section
variable {X:Cx}
theorem Cj:dA X (.builtin "len") (fun xs H Q=>∃ a aY,xs=[V.ref a]∧H a=some (.dK aY)∧Q (.int aY.length) H):=by
 intro pins s σ H xs us Q I r h
 obtain ⟨a,aY,rfl,ha,q⟩:=h
 obtain ⟨u,rfl,ru⟩:=vals1 r
 cases ru
 exact U6 I (.inl ha) fun t s' I'=>⟨.int aY.length,H,I',⟨t,rfl⟩,q⟩
end
section
variable {κ:Type} [DecidableEq κ]
end
end L2
namespace VT
open PySem PySem.Spec PyProof.Rows L2
def Ck:T→Option Key
 | .int i=>some (.inl i)
 | .str x=>some (.inr x)
 | _=>none
theorem ko {K:KFr} {H:Hp} {A:List Addr} {t:T} {v:V} {k:Key} (h:gq K H A t v) (e:Ck t=some k):v=kV k:=by
 cases t with
 | int i=>cases e; exact h.int
 | str x=>cases e; exact h.str
 | _=>cases e
def bY {α:Type}:List Key→List α→Key→Option α
 | k :: ks,t :: ts,x=>if k=x then some t else bY ks ts x
 | _,_,_=>none
def kq (ks:List Key) (x:Key):Bool:=ks.any fun k=>decide (k=x)
def eE (ks:List Key) (x:Key):List Key:=if kq ks x=true then ks else ks ++ [x]
def cc {α:Type} (ks:List Key) (ts:List α) (x:Key) (u:α):List α:=if kq ks x=true then List.zipWith (fun k t=>if k=x then u else t) ks ts else ts ++ [u]
theorem ee:∀ (ks:List Key) (vs:List V) (x:Key),iA (ks.zip vs) x=bY ks vs x
 | [],vs,x=>rfl
 | k :: ks,[],x=>rfl
 | k :: ks,v :: vs,x=>by
   simp only [bY,Mx]
   by_cases e:k=x
   · rw [if_pos e,km (p:=(k,v)) e]
   · rw [if_neg e,kn (p:=(k,v)) e]; exact ee ks vs x
theorem v7 {α:Type} (ts:List α) (x:Key):bY [] ts x=none:=by cases ts <;> rfl
theorem fQ {K:KFr} {H:Hp} {A:List Addr}:∀ {ks:List Key} {ts:List T} {vs:List V} {x:Key},az K H A ts vs→(∀ t,bY ks ts x=some t→∃ v,bY ks vs x=some v∧At K H A t v)∧(bY ks ts x=none→bY ks vs x=none)
 | [],ts,vs,x,h=>by
   rw [v7,v7]
   refine ⟨fun t e=>?_,fun _=>rfl⟩
   cases e
 | k :: ks,[],vs,x,h=>by
   simp only [az] at h
   subst h
   exact ⟨fun t e=>(by cases e),fun _=>rfl⟩
 | k :: ks,t :: ts,vs,x,h=>by
   simp only [az] at h
   obtain ⟨v,r,rfl,h1,h2⟩:=h
   simp only [bY]
   by_cases e:k=x
   · rw [if_pos e,if_pos e]
     exact ⟨fun t e=>by cases e; exact ⟨v,rfl,h1⟩,fun q=>by cases q⟩
   · rw [if_neg e,if_neg e]
     exact fQ h2
theorem Kp (ks:List Key) (vs:List V) (x:Key) (hl:ks.length=vs.length):((ks.zip vs).any fun kv=>decide (kv.1=x))=kq ks x:=by
 unfold kq
 induction ks generalizing vs with
 | nil=>rfl
 | cons k ks ih =>
   cases vs with
   | nil=>simp at hl
   | cons v vs=>rw [Mx,IF,IF,ih vs (by simpa using hl)]
theorem zip_map (ks:List Key) (vs:List V) (x:Key) (v:V):(ks.zip vs).map (fun kv=>if kv.1=x then (kv.1,v) else kv)=ks.zip (List.zipWith (fun k t=>if k=x then v else t) ks vs):=by
 induction ks generalizing vs with
 | nil=>rfl
 | cons k ks ih =>
   cases vs with
   | nil=>rfl
   | cons u vs =>
     simp only [Mx,i5,XB]
     rw [ih vs]
     by_cases e:k=x
     · rw [if_pos e,if_pos e]
     · rw [if_neg e,if_neg e]
theorem Fw (ks:List Key) (vs:List V) (x:Key) (v:V) (hl:ks.length=vs.length):L2.putK (ks.zip vs) x v=(eE ks x).zip (cc ks vs x v)∧(eE ks x).length=(cc ks vs x v).length:=by
 unfold L2.putK eE cc
 rw [Kp ks vs x hl]
 by_cases e:kq ks x=true
 · rw [if_pos e,if_pos e,if_pos e]
   exact ⟨zip_map ks vs x v,by simp [hl]⟩
 · rw [if_neg e,if_neg e,if_neg e]
   refine ⟨?_,by simp [hl]⟩
   rw [List.zip_append hl]
   rfl
theorem v8 {K:KFr} {H:Hp} {A:List Addr} {ks:List Key} {ts:List T} {vs:List V} {x:Key} {t:T} {v:V} (h:az K H A ts vs) (ht:At K H A t v):az K H A (cc ks ts x t) (cc ks vs x v):=by
 unfold cc
 by_cases e:kq ks x=true
 · rw [if_pos e,if_pos e]
   clear e
   induction ks generalizing ts vs with
   | nil=>simp only [List.zipWith_nil_left]; exact az.nil
   | cons k ks ih =>
     cases ts with
     | nil =>
       simp only [az] at h
       subst h
       simp only [List.zipWith_nil_right]
       exact az.nil
     | cons t0 ts =>
       simp only [az] at h
       obtain ⟨v0,r,rfl,h1,h2⟩:=h
       simp only [XB]
       refine az.cons ?_ (ih h2)
       by_cases q:k=x
       · rw [if_pos q,if_pos q]; exact ht
       · rw [if_neg q,if_neg q]; exact h1
 · rw [if_neg e,if_neg e]
   exact h.append (az.cons ht az.nil)
section
variable {X:Cx} {Z:Zc} {e a b:Expr} {fa fb fc:FE} {pos:Pos}
def U9:FP:=fun _ Q=>Q (.fr (.dk [] []))
theorem tS:VP X Z (.Dict [] [] pos) U9:=.mk fun tm=>PE.weak oS fun σ H Q ⟨ρ,O,q,I,hf,k⟩ p hp =>
 k _ hf _ _ (aG hp) (I.newD (ks:=[]) (ts:=[]) (vs:=[]) hp rfl az.nil)
def U_ (fa fb:FE):FP:=fun ρ Q=>fa ρ fun x=>fb ρ fun y=>match x,Ck y with
 | .dk ks ts,some k=>∃ t,bY ks ts k=some t∧Q (.vw t)
 | _,_=>False
theorem Fx (hu:X.A.units+1 < cLine) (ha:VR X Z a fa) (hb:VR X Z b fb) (hs:Kn b:=by intro _ _; rfl):VP X Z (.Subscript a b pos) (U_ fa fb):=.mk fun tm=>PE.weak (Ko hu (ha tm) (hb tm) hs) fun σ H Q ⟨ρ,O,q,I,hf,k⟩ =>
 ⟨ρ,O,_,I,hf,fun x hx v H1 s1 a1=>⟨ρ,O,_,I.same s1,hx,fun y hy w H2 s2 a2=>by
   split at hy
   · rename_i ks ts kk e
     obtain ⟨t,e1,hq⟩:=hy
     obtain ⟨l,vs,rfl,hl,hd,hv⟩:=(a1.same s2).dk
     obtain ⟨u,e2,e3⟩:=(fQ hv).1 t e1
     rw [ko a2 e]
     exact ⟨l,u,rfl,by rw [← e2,← ee]; exact tQ.k hd,k _ hq _ H2 (s1.trans s2) ⟨(I.same s1).same s2,e3⟩⟩
   · exact hy.elim⟩⟩
def aci (fa fb fc:FE):FP:=fun ρ Q=>fa ρ fun x=>match x with
 | .dk ks ts=>fb ρ fun y=>fc ρ fun z=>match Ck y with
   | some k=>Q (.vw ((bY ks ts k).getD z))
   | none=>False
 | _=>False
theorem AY {K:KFr} {H:Hp} {A:List Addr} {ks:List Key} {ts:List T} {vs:List V} {k:Key} {z:T} {w:V} (h:az K H A ts vs) (hz:At K H A z w):At K H A ((bY ks ts k).getD z) ((bY ks vs k).getD w):=by
 cases e:bY ks ts k with
 | none=>rw [(fQ h).2 e]; exact hz
 | some t=>obtain ⟨v,e1,e2⟩:=(fQ h).1 t e; rw [e1]; exact e2
theorem Fy {c:Expr} {apos aW:Pos} (hu:X.A.units+1 < cLine) (ha:VR X Z a fa) (hb:VR X Z b fb) (hc:VE X Z c fc) (m:M2 X a "get" apos b c aW):VP X Z (.Call (.Attribute a "get" apos) [b,c] [] aW) (aci fa fb fc):=.mk fun tm=>PE.weak (Fv hu (ha tm) (hb tm) (hc tm) m) fun σ H Q ⟨ρ,O,q,I,hf,k⟩ =>
 ⟨ρ,O,_,I,hf,fun x hx v H1 s1 a1=>by
   split at hx
   · rename_i ks ts
     obtain ⟨l,vs,rfl,hl,hd,hv⟩:=a1.dk
     refine ⟨l,rfl,.inl ⟨_,.inl hd⟩,ρ,O,_,I.same s1,hx,fun y hy w H2 s2 a2=>⟨ρ,O,_,(I.same s1).same s2,hy,fun z hz u H3 s3 a3=>?_⟩⟩
     split at hz
     · rename_i kk e
       rw [ko a2 e]
       refine ⟨_,tQ.k (s3 _ _ (s2 _ _ hd)),?_⟩
       rw [ee]
       exact k _ hz _ H3 ((s1.trans s2).trans s3) ⟨((I.same s1).same s2).same s3,AY ((hv.same s2).same s3) a3⟩
     · exact hz.elim
   · exact hx.elim⟩
def Nt (n:Nat) (f fi:FE):FS:=fun d ρ=>match ρ[n]? with
 | some (some (.dk ks ts,true))=>f ρ fun v=>fi ρ fun i=>match Ck i with
   | some k=>ts.length < 16777216∧d.nx (ρ.set n (some (.dk (eE ks k) (cc ks ts k v),true)))
   | none=>False
 | _=>False
theorem nN (n:Nat) {x:Str} {p:Pos} {f fi:FE} {i:Expr} {fB:Pos} (hu:X.A.units+1 < cLine) (he:VE X Z e f) (hi:VR X Z i fi)
  (hN:X.N[n]?=some x:=by rfl) (hv:j5 X.env.scope x:=by first | exact Or.inl rfl | exact Or.inr (Or.inl rfl) | exact Or.inr (Or.inr rfl)) (hd:ic x:=by decide)
  (gn:va x:=by decide) (hs:swapsWith e (some (.Subscript (.Name x p) i fB)) pos.line X.env=pure false:=by rfl) :
  VS X Z (.Assign [.Subscript (.Name x p) i fB] e pos) (Nt n f fi):=.mk fun tm =>
 PS.weak (AX hu (bT hN hv hd gn) (hi tm) (he tm) hs) fun D σ H ⟨ρ,O,d,I,q,F⟩=>by
  unfold Nt at q
  split at q
  · rename_i ks ts e0
    obtain ⟨l,h1,h2,xs,hl,h3,h4⟩:=I.root e0
    have ha:l∈av Z O:=cq _ (aK.mpr (ik h1))
    refine ⟨ρ,O,_,I,q,fun t ht v H1 s1 a1=>⟨.ref l,h2,ρ,O,_,I.same s1,ht,fun j hj w H2 s2 a2=>?_⟩⟩
    split at hj
    · rename_i kk ek
      obtain ⟨hlen,hj⟩:=hj
      have h3':=s2 _ _ (s1 _ _ h3)
      have q:=Fw ks xs kk v hl
      have hz:(ks.zip xs).length < sizeLine:=by
       rw [sizeLine_eq,Oo,hl,MH,h4.length]
       omega
      rw [ko a2 ek]
      refine ⟨l,_,rfl,Ce.k h3' hz,?_⟩
      rw [q.1]
      refine F.nx O _ σ _ (((I.same s1).same s2).wrote (t':=.dk (eE ks kk) (cc ks ts kk t)) e0 h1 ⟨cc ks xs kk v,q.2,aI,?_⟩) hj
      exact az.wrote ha h3' rfl (v8 ((h4.same s1).same s2) (a1.same s2))
    · exact hj.elim
  · exact q.elim
end
section
variable {X:Cx} {Z:Zc} {a b:Expr} {fa fb:FE} {pos:Pos}
def Nu (ts:List T) (q:Rt→Prop):Prop:=match ts with
 | [.dk ks vs]=>q (.vw (.int (vs.length:Int)))
 | _=>False
theorem yM {K:KFr}:mJ K (fun xs H Q=>∃ a aY,xs=[V.ref a]∧H a=some (.dK aY)∧Q (.int aY.length) H) Nu:=by
 intro Z tm O ρ σ H ts vs q Q I h hp k
 unfold Nu at hp
 split at hp
 · obtain ⟨v,rfl,a⟩:=cS h
   obtain ⟨l,ws,rfl,hl,hd,hv⟩:=a.dk
   refine ⟨l,_,rfl,hd,?_⟩
   rw [Oo,hl,MH,hv.length]
   exact k _ hp _ H (aN.refl H) ⟨I,bb⟩
 · exact hp.elim
end
end VT
namespace RV
open PySem PySem.Spec PyProof.Rows
section
variable {prog:Program} {w:World} {A:Around} {E:Value→Shared→Prop} {s:Shared}
end
section
variable {prog:Program} {w:World} {A:Around} {s:Shared} {R:Result→Shared→Prop}
variable {I:Addr} {fp wr:List Addr} {G:Array GenState→Array GenState→Prop} {n:Nat} {P:Nat→Value→Prop} {St:Nat→Shared→Prop}
def Ends (prog:Program) (w:World) (A:Around) (I:Addr) (wr:List Addr) (G:Array GenState→Array GenState→Prop) (n:Nat) (St:Nat→Shared→Prop):Prop :=
 ∀ (s:Shared) (Q:Option Value→Shared→Prop) (E:Value→Shared→Prop),St n s→(∀ s',Moved wr G s s'→(∃ o,s'.heap.get? I=some o)→Q none s')→wpAny (model prog w) A (pyNext (.ref I)) Q E s
end
section
variable {prog:Program} {w:World} {A:Around} {E:Value→Shared→Prop} {s:Shared}
variable {I:Addr} {fp wr:List Addr} {G:Array GenState→Array GenState→Prop} {n:Nat} {P:Nat→Value→Prop} {St:Nat→Shared→Prop}
end
section
variable {prog:Program} {w:World} {A:Around} {E:Value→Shared→Prop} {s:Shared}
end
end RV
namespace VT
open PySem PySem.Spec PyProof.Rows L2
section
variable {X:Cx}
end
section
variable {X:Cx} {Z:Zc} {a:Expr} {fa:FE} {p1 p2 Kq Cm:Pos}
end
theorem v_ {n:Nat} (h:n+101 < cLine):n+1 < cLine:=by omega
section
variable {X:Cx} {Z:Zc} {ek ev:Expr} {fk fv:FE} {pos:Pos}
end
def Nv (w:World) (K:KFr) (e:DictEntry) (p:Str×T):Prop:=e.hash=PyData.keyHash w.params p.1∧(∃ t,e.key = .str p.1 t)∧∃ v,RelV v e.val∧∀ H A,At K H A p.2 v
def oU (w:World) (K:KFr) (a:Addr) (l:List (Str×T)):Prop:=∃ es ep,K.lookup a=some ⟨.type "dict",none,.dict es ep,#[]⟩∧(a == sysModules)=false∧Paired (Nv w K) es.toList l∧(l.map (·.1)).Nodup
theorem ents {P:Program} {w:World} {K:KFr}:∀ {es:List DictEntry} {l:List (Str×T)},Paired (Nv w K) es l →
  ∃ (vs:List V) (us:List (Key×Value)),(∀ H A,az K H A (l.map (·.2)) vs)∧KV ((l.map fun p=>(Sum.inr p.1:Key)).zip vs) us∧PySem.Pairs (bG P w) es us∧us.map (·.1)=l.map (fun p=>(Sum.inr p.1:Key))∧∀ e∈es,∃ k,(bG P w).is k e.key=true∧e.hash=(bG P w).hash k
 | _,_,.nil=>⟨[],[],fun _ _=>az.nil,.nil,.nil,rfl,fun _ h=>nomatch h⟩
 | _,_,.cons (a:=e) (b:=p) r t=>by
   obtain ⟨vs,us,h1,h2,h3,h4,h5⟩:=ents (P:=P) t
   obtain ⟨r1,⟨tk,r2⟩,v,r3,r4⟩:=r
   have hk:(bG P w).is (Sum.inr p.1) e.key=true:=by
    rw [r2]
    show Value.isStrOf p.1 (.str p.1 tk)=true
    simp [Value.isStrOf]
   refine ⟨v :: vs,(Sum.inr p.1,e.val) :: us,fun H A=>az.cons (r4 H A) (h1 H A),.cons ⟨rfl,r3⟩ h2,.cons hk rfl h3,by rw [i5,i5,h4],fun e' he=>?_⟩
   rcases cY.mp he with q | q
   · subst q
     exact ⟨Sum.inr p.1,hk,r1⟩
   · exact h5 e' q
theorem oU.of {X:Cx} {pins:List (Addr×Obj)} {σ:St} {H:Hp} {s:Shared} {a:Addr} {l:List (Str×T)} (I:Inv X pins σ H s) (d:oU X.w X.K a l) :
  ∃ (vs:List V) (us:List (Key×Value)),(∀ H A,az X.K H A (l.map (·.2)) vs)∧KV ((l.map fun p=>(Sum.inr p.1:Key)).zip vs) us∧s.heap.DictOf (bG X.prog X.w) a us∧(a == sysModules)=false:=by
 obtain ⟨es,ep,lk,hs,hp,nd⟩:=d
 obtain ⟨vs,us,h1,h2,h3,h4,h5⟩:=ents (P:=X.prog) hp
 refine ⟨vs,us,h1,h2,⟨_,es,ep,I.qk a _ lk,⟨rfl,rfl,rfl⟩,rfl,fun e he=>h5 e (by simpa using he),h3,?_⟩,hs⟩
 rw [h4]
 have e:(l.map fun p=>(Sum.inr p.1:Key))=(l.map (·.1)).map Sum.inr:=by rw [Ap]; rfl
 rw [e]
 exact List.Pairwise.map _ (fun a b h z=>h (Sum.inr.inj z)) nd
section
variable {X:Cx} {Z:Zc} {e c:Expr} {fe fc:FE} {x:Str} {p apos aW:Pos} {a:Addr} {l:List (Str×T)}
def Cn (l:List (Str×T)) (k:Str):Option T:=bY (l.map fun p=>(Sum.inr p.1:Key)) (l.map (·.2)) (Sum.inr k)
def onStr (t:T) (f:Str→Prop):Prop:=match t with
 | .str k=>f k
 | _=>False
theorem wa {t:T} {f:Str→Prop} (h:onStr t f):∃ k,t = .str k∧f k:=by
 unfold onStr at h
 split at h
 · exact ⟨_,rfl,h⟩
 · exact h.elim
def acj (l:List (Str×T)) (fe fc:FE):FP:=fun ρ Q=>fe ρ fun y=>fc ρ fun z=>onStr y fun k=>Q (.vw ((Cn l k).getD z))
theorem Fz (hg:Gl X x) (hm:X.mg x=some (.ref a)) (d:oU X.w X.K a l) (he:VR X Z e fe) (hc:VE X Z c fc) (m:M2 X (.Name x p) "get" apos e c aW) (hd:ic x:=by decide) :
  VP X Z (.Call (.Attribute (.Name x p) "get" apos) [e,c] [] aW) (acj l fe fc):=.mk fun tm pins s σ H Q I ⟨ρ,O,q,E,hf,k⟩=>by
 refine wpAny_Call_method m.base m.few m.line Xz Td PySem.F.type_dict_get (cm (sG hg hm (v:=.ref a) rfl hd pins s σ H (fun v H'=>v = .ref a∧H'=H) I ⟨rfl,rfl⟩) fun u s1 ⟨x',H1,I1,rx,ex,eH⟩=>?_)
 subst ex eH
 obtain rfl:u=Value.ref a:=rx
 obtain ⟨vs,us,h1,h2,dd,hs⟩:=d.of I1
 refine ⟨dd.typeIs,fun b q=>?_,?_⟩
 · cases q
   obtain ⟨ob,_,_,z1,z2,_⟩:=dd
   exact ⟨ob,z1,z2.2.1⟩
 rw [m.trees]
 refine XA rfl (Calls.evalArgs_plain (Tf (cm (he tm pins s1 σ H1 (fun y H2=>∃ t,gq X.K H2 (av Z O) t y∧aN H1 H2∧fc ρ fun z=>onStr t fun k=>q (.vw ((Cn l k).getD z))) I1 ⟨ρ,O,_,E,hf,fun t ht v H' s a1=>⟨t,a1,s,ht⟩⟩) fun iv s2 ⟨y,H2,I2,ry,t,a1,sa,q2⟩ =>
  Tf (cm (hc tm pins s2 σ H2 (fun z H3=>∃ tz,At X.K H3 (av Z O) tz z∧aN H2 H3∧onStr t fun k=>q (.vw ((Cn l k).getD tz))) I2 ⟨ρ,O,_,E.same sa,q2,fun tz htz v H' s a2=>⟨tz,a2,s,htz⟩⟩) fun fv s3 ⟨z,H3,I3,rz,tz,a2,sb,q3⟩=>Calls.spliced_nil ?_))))
 obtain ⟨kk,et,q3⟩:=wa q3
 subst et
 obtain ⟨kc,SR,IP,Kr,Ci,UZ⟩:=d.of I3
 have ey:=a1.str
 subst ey
 refine call_meetsIn Td Ci.typeIs YN (YL _ _ _) (meets_dict_get_default (bG X.prog X.w) a (oR (k:=Sum.inr kk) ry) UZ fv) ⟨_,Ci.mapOf,⟨_,H3,I3.tok _,(Kr.val (Sum.inr kk)).getD rz,?_⟩⟩
 rw [ee]
 exact k _ q3 _ H3 (sa.trans sb) ⟨(E.same sa).same sb,AY (IP H3 (av Z O)) a2⟩
end
section
variable {X:Cx}
end
section
variable {K:KFr} {H:Hp} {A:List Addr}
end
section
variable {X:Cx}
end
section
variable {X:Cx} {Z:Zc} {a b e:Expr} {fa fb:FE} {pos:Pos}
end
abbrev FPs:=En→(List (Key×T)→Prop)→Prop
section
variable {X:Cx} {Z:Zc} {ek ev:Expr} {fk fv:FE} {pos:Pos} {keys:List (Option Expr)} {values:List Expr} {f:FPs}
variable {e:Expr} {apos aW:Pos}
end
section
variable {X:Cx}
end
section
variable {X:Cx} {Z:Zc} {a b:Expr} {fa fb:FE} {pos:Pos}
end
section
variable {X:Cx} {Z:Zc}
theorem Ks:MX X "dict.setdefault" (fun x xs H Q=>∃ (a:Addr) (aY:List (Key×V)) (k:Key) (v:V),x = .ref a∧xs=[kV k,v]∧H a=some (.dK aY)∧aY.length < sizeLine ∧
  (∀ u,iA aY k=some u→Q u H)∧(iA aY k=none→Q v (upd H a (.dK (L2.putK aY k v))))):=by
 intro pins s σ H x xs v us Q I rx rs h
 obtain ⟨a,aY,k,y,rfl,rfl,ha,hsz,q1,q2⟩:=h
 cases rx
 obtain ⟨u1,u2,rfl,ru1,ru2⟩:∃ u1 u2,us=[u1,u2]∧RelV (kV k) u1∧RelV y u2:=by
  cases rs with
  | cons r1 t=>cases t with
    | cons r2 t2=>cases t2; exact ⟨_,_,rfl,r1,r2⟩
 obtain ⟨z,hd,vs,rel,dd⟩:=AV I.cg ha
 refine call_meetsIn PySem.F.slot_dict_setdefault dd.typeIs PySem.F.entry_dict_setdefault (PySem.F.args_dict_setdefault_3 _ _ _) (kt_meets_setdefault (bG X.prog X.w) a (oR ru1) hd u2) ⟨vs,dd,by rw [← rel.length]; omega,fun v0 hv=>?_,fun hn h' Ci hs=>?_⟩
 · have vt:=rel.val k
   rw [hv] at vt
   cases e:iA aY k with
   | none=>rw [e] at vt; cases vt
   | some w0 =>
     rw [e] at vt
     have hr:RelV w0 v0:=vt
     exact ⟨w0,H,I.tok _,hr,q1 w0 e⟩
 · have vt:=rel.val k
   rw [hn] at vt
   cases e:iA aY k with
   | some w0=>rw [e] at vt; cases vt
   | none =>
     have he:∃ q,h'.get? a=some q:=let ⟨q,_,_,hq,_⟩:=Ci; ⟨q,hq⟩
     have hl:(L2.putK aY k y).length≤sizeLine:=by have:=iB aY k y; omega
     exact ⟨y,_,tR (t':=s.toks+1) I (by rw [ha]; exact True.intro) hs he (Ft hl hd (rel.put k ru2) Ci),ru2,q2 e⟩
end
section
variable {X:Cx} {Z:Zc} {e1 e2:Expr} {f1 f2:FE} {apos aW:Pos}
def Nw (n:Nat) (f1 f2:FE):FX:=fun ρ Q=>match ρ[n]? with
 | some (some (.dk ks ts,true))=>f1 ρ fun x=>f2 ρ fun y=>match Ck x with
   | some k=>ts.length < 16777216∧match bY ks ts k with
     | some t=>Q ρ (.vw t)
     | none=>Q (ρ.set n (some (.dk (ks ++ [k]) (ts ++ [y]),true))) (.vw y)
   | none=>False
 | _=>False
theorem Kt (n:Nat) {x:Str} {p:Pos} (h1:VE X Z e1 f1) (h2:VE X Z e2 f2)
  (hN:X.N[n]?=some x:=by rfl) (hv:j5 X.env.scope x:=by first | exact Or.inl rfl | exact Or.inr (Or.inl rfl) | exact Or.inr (Or.inr rfl)) (hd:ic x:=by decide)
  (gn:va x:=by decide) (c7:attributeBase (.Name x p) "setdefault" X.env (eval (.Name x p) X.env)=eval (.Name x p) X.env:=by rfl)
  (la:((backTo aW (starEach [e1,e2] X.env)).all (fun x=>!x.1) && (backToKw aW (keywordEach [] X.env)).all (fun x=>x.1.isSome)
    && decide (([e1,e2]:List Expr).length+([]:List Keyword).length+(if ([]:List Keyword).isEmpty then 0 else 1) < 30))=true:=by rfl)
  (c8:(apos.endLine == aW.line)=true:=by rfl) (hs:starEach [e1,e2] X.env=(false,eval e1 X.env) :: starEach [e2] X.env:=by rfl) (rn:starEach [e2] X.env=(false,eval e2 X.env) :: starEach [] X.env:=by rfl)
  (dP:(backTo aW (starEach [e2] X.env)).any (·.1)=false:=by rfl) :
  VX X Z (.Call (.Attribute (.Name x p) "setdefault" apos) [e1,e2] [] aW) (Nw n f1 f2):=.mk fun tm =>
 PE.weak (rD Xz PySem.F.slot_dict_setdefault PySem.F.type_dict_setdefault Ks (bT hN hv hd gn) (bw (h1 tm) (bw (h2 tm) cO rn) hs) c7 la c8 hs dP) fun σ H Q ⟨ρ,O,q,I,hf,kk⟩=>by
  unfold Nw at hf
  split at hf
  · rename_i ks ts e0
    obtain ⟨l,g1,g2,xs,hl,g3,g4⟩:=I.root e0
    have ha:l∈av Z O:=cq _ (aK.mpr (ik g1))
    refine ⟨.ref l,g2,.inr (.inr (.inl ⟨rfl,.inl ⟨_,g3⟩⟩)),ρ,O,_,I,hf,fun t ht v H1 s1 a1=>⟨ρ,O,_,I.same s1,ht,fun y hy w H2 s2 a2=>?_⟩⟩
    split at hy
    · rename_i SS ek
      obtain ⟨hlen,hy⟩:=hy
      have ev:v=kV SS:=ko (.inl a1) ek
      subst ev
      have hz:(ks.zip xs).length < sizeLine:=by
       rw [sizeLine_eq,Oo,hl,MH,g4.length]
       omega
      have J:=(I.same s1).same s2
      have b4:=(g4.same s1).same s2
      refine ⟨l,ks.zip xs,SS,w,rfl,rfl,s2 _ _ (s1 _ _ g3),hz,fun u hu=>?_,fun hn=>?_⟩
      · rw [ee] at hu
        cases eg:bY ks ts SS with
        | none=>rw [(fQ b4).2 eg] at hu; cases hu
        | some t0 =>
          rw [eg] at hy
          obtain ⟨v0,e1,e2⟩:=(fQ b4).1 t0 eg
          rw [e1] at hu
          cases hu
          exact kk _ _ hy O _ _ ⟨J,e2⟩
      · rw [ee] at hn
        cases eg:bY ks ts SS with
        | some t0 =>
          obtain ⟨v0,e1,e2⟩:=(fQ b4).1 t0 eg
          rw [e1] at hn
          cases hn
        | none =>
          rw [eg] at hy
          have e1:L2.putK (ks.zip xs) SS w=(ks ++ [SS]).zip (xs ++ [w]):=by
           rw [Fs _ (by rw [ee]; exact hn),List.zip_append hl]
           rfl
          rw [e1]
          refine kk _ _ hy O _ _ ⟨J.wrote e0 g1 ⟨xs ++ [w],by simp [hl],aI,?_⟩,a2.wrote ha (s2 _ _ (s1 _ _ g3)) rfl⟩
          exact (b4.append (az.cons a2 az.nil)).wrote ha (s2 _ _ (s1 _ _ g3)) rfl
    · exact hy.elim
  · exact hf.elim
end
def oV {α:Type} (f:Str):List Str→List α→Option α
 | n :: ns,t :: ts=>match f == n with
   | true=>some t
   | false=>oV f ns ts
 | _,_=>none
def Co (f:Str):List Str→List Str
 | []=>[f]
 | n :: ns=>if n=f then n :: ns else n :: Co f ns
def ng {α:Type} (f:Str) (u:α):List Str→List α→List α
 | n :: ns,t :: ts=>if n=f then u :: ts else t :: ng f u ns ts
 | _,_=>[u]
theorem oW (f:Str):∀ (ns:List Str) (vs:List V),(ns.zip vs).lookup f=oV f ns vs
 | [],vs=>by cases vs <;> rfl
 | n :: ns,[]=>rfl
 | n :: ns,v :: vs=>by
   rw [Mx,IB]
   unfold oV
   cases f == n with
   | true=>rfl
   | false=>exact oW f ns vs
theorem wb (f:Str) (y:V):∀ (ns:List Str) (vs:List V),ns.length=vs.length→dv f y (ns.zip vs)=(Co f ns).zip (ng f y ns vs)∧(Co f ns).length=(ng f y ns vs).length
 | [],[],_=>⟨rfl,rfl⟩
 | [],v :: vs,h=>by simp at h
 | n :: ns,[],h=>by simp at h
 | n :: ns,v :: vs,h=>by
   have ih:=wb f y ns vs (by simpa using h)
   rw [Mx]
   show (if n=f then (n,y) :: ns.zip vs else (n,v) :: dv f y (ns.zip vs))=_∧_
   unfold Co ng
   by_cases e:n=f
   · rw [if_pos e,if_pos e,if_pos e]; exact ⟨rfl,by simpa using h⟩
   · rw [if_neg e,if_neg e,if_neg e,ih.1]; exact ⟨rfl,by simp [ih.2]⟩
section
variable {K:KFr} {H:Hp} {A:List Addr} {f:Str}
theorem wc:∀ {ns:List Str} {ts:List T} {vs:List V} {t:T},az K H A ts vs→oV f ns ts=some t→∃ v,oV f ns vs=some v∧At K H A t v
 | [],ts,vs,t,_,e=>by cases ts <;> cases e
 | n :: ns,[],vs,t,_,e=>by cases e
 | n :: ns,t0 :: ts,vs,t,h,e=>by
   simp only [az] at h
   obtain ⟨v,r,rfl,h1,h2⟩:=h
   unfold oV at e ⊢
   cases q:f == n with
   | true=>rw [q] at e; cases e; exact ⟨v,rfl,h1⟩
   | false=>rw [q] at e; exact wc h2 e
theorem AZ:∀ {ns:List Str} {ts:List T} {vs:List V} {t:T} {v:V},az K H A ts vs→At K H A t v→az K H A (ng f t ns ts) (ng f v ns vs)
 | [],ts,vs,t,v,_,q=>by
   have e1:ng f t [] ts=[t]:=by cases ts <;> rfl
   have e2:ng f v [] vs=[v]:=by cases vs <;> rfl
   rw [e1,e2]; exact az.cons q az.nil
 | n :: ns,[],vs,t,v,h,q=>by
   simp only [az] at h
   subst h
   exact az.cons q az.nil
 | n :: ns,t0 :: ts,vs,t,v,h,q=>by
   simp only [az] at h
   obtain ⟨v0,r,rfl,h1,h2⟩:=h
   unfold ng
   by_cases e:n=f
   · rw [if_pos e,if_pos e]; exact az.cons q h2
   · rw [if_neg e,if_neg e]; exact az.cons h1 (AZ h2 q)
end
section
variable {X:Cx} {Z:Zc} {e:Expr} {es:List Expr} {C:Addr} {f:Str} {pos:Pos}
def ack (C:Addr) (f:Str) (fe:FE):FP:=fun ρ Q=>fe ρ fun t=>match t with
 | .ins C' ns ts=>C'=C∧∃ u,oV f ns ts=some u∧Q (.vw u)
 | _=>False
theorem bD {fe:FE} (cl:yi X.K C) (na:a_ X.K C f) (h:VR X Z e fe) (hb:attributeBase e f X.env (eval e X.env)=eval e X.env:=by rfl):VP X Z (.Attribute e f pos) (ack C f fe):=.mk fun tm =>
 PE.weak (yl (h tm) hb) fun σ H Q ⟨ρ,O,q,I,hf,k⟩=>⟨ρ,O,_,I,hf,fun t ht v H1 s1 a1=>by
  split at ht
  · rename_i C' ns ts
    obtain ⟨rfl,u,e1,hq⟩:=ht
    obtain ⟨a,dx,vs,rfl,hl,hd,hv⟩:=a1.ins
    obtain ⟨w,e2,e3⟩:=wc hv e1
    exact ⟨a,_,dx,_,w,rfl,hd,cl,na,by rw [oW]; exact e2,k _ hq _ H1 s1 ⟨I.same s1,e3⟩⟩
  · exact ht.elim⟩
def Cp (n:Nat) (C:Addr) (f:Str) (fe:FE):FS:=fun d ρ=>match ρ[n]? with
 | some (some (.ins C' ns ts,true))=>C'=C∧fe ρ fun v=>ts.length < 1000∧d.nx (ρ.set n (some (.ins C' (Co f ns) (ng f v ns ts),true)))
 | _=>False
theorem gT (n:Nat) {x:Str} {p fB:Pos} {fe:FE} (cl:yi X.K C) (na:a_ X.K C f) (he:VE X Z e fe)
  (hN:X.N[n]?=some x:=by rfl) (hv:j5 X.env.scope x:=by first | exact Or.inl rfl | exact Or.inr (Or.inl rfl) | exact Or.inr (Or.inr rfl)) (hd:ic x:=by decide)
  (gn:va x:=by decide) (hs:swapsWith e (some (.Attribute (.Name x p) f fB)) pos.line X.env=pure false:=by rfl) :
  VS X Z (.Assign [.Attribute (.Name x p) f fB] e pos) (Cp n C f fe):=.mk fun tm =>
 PS.weak (eQ (bT hN hv hd gn) (he tm) hs) fun D σ H ⟨ρ,O,d,I,q,F⟩=>by
  unfold Cp at q
  split at q
  · rename_i C' ns ts e0
    obtain ⟨rfl,q⟩:=q
    obtain ⟨l,h1,h2,dx,xs,hl,h3,h4⟩:=I.root e0
    have ha:l∈av Z O:=cq _ (aK.mpr (ik h1))
    refine ⟨ρ,O,_,I,q,fun t ht v H1 s1 a1=>⟨.ref l,h2,l,_,dx,_,rfl,s1 _ _ h3,cl,na,?_,?_⟩⟩
    · rw [Oo,hl,MH,h4.length]; exact ht.1
    · have pz:=wb f v ns xs hl
      rw [pz.1]
      refine F.nx O _ σ _ ((I.same s1).wrote (t':=.ins _ (Co f ns) (ng f t ns ts)) e0 h1 ⟨dx,ng f v ns xs,pz.2,aI,?_⟩) ht.2
      exact az.wrote ha (s1 _ _ h3) rfl (AZ (h4.same s1) a1)
  · exact q.elim
def Ny (K:KFr) (C:Addr) (n:Nat) (G:List T→(T→Prop)→Prop):Sp:=PR K (true :: List.replicate n false) fun ts q=>match ts with
 | .ins C' [] [] :: us=>C'=C∧G us fun u=>q [u] (.vw .aT)
 | _=>False
theorem A0 {n:Nat} {G:List T→(T→Prop)→Prop} {tm:List (T×V)} {O:List (Option Addr)} {ρ:En} {σ:St} {H:Hp} {ts:List T} {vs:List V} {q:Rt→Prop} {Q:VK} (I:ax X.K Z tm O ρ σ H) (a:az X.K H (av Z O) ts vs) (hn:ts.length=n) (hG:G ts fun u=>q (.fr u))
  (k:∀ r,q r→∀ v H',aN H H'→fD X.K Z tm O ρ σ H' r v→Q v H'):∀ x dx,H x=none→H dx=none→dx≠x→Ny X.K C n G (.ref x :: (vs ++ [])) (upd (upd H dx (.own x)) x (.ins C dx [])) (fun v H2=>v = .aT∧Q (.ref x) H2) E0:=by
 intro x dx hx hdx eK
 rw [IC]
 obtain ⟨n1,n2,n3⟩:=I.fresh hx
 have s0:aN H (upd (upd H dx (.own x)) x (.ins C dx [])):=fun b o e=>by
  rw [aA (a9 e hx),aA (a9 e hdx)]; exact e
 have a1:az X.K (upd (upd H dx (.own x)) x (.ins C dx [])) ([x] ++ av Z O) ts vs:=(a.more fun b hb=>by
  rcases cA.mp hb with z | z
  · exact .inr (by rw [kZ.mp z]; exact hx)
  · exact .inl z).same s0
 refine ⟨.ins C [] [] :: ts,[x],av Z O,fun us r=>r = .vw .aT∧∃ u,us=[u]∧q (.fr u),by simp,fun b hb=>by rw [kZ.mp hb]; exact n1,fun b hb=>?_,⟨x,[],_,ts,vs,rfl,rfl,rfl,⟨dx,[],rfl,aI,az.nil⟩,eV hn a1⟩,⟨rfl,?_⟩,fun us r hr v H' fr z=>?_⟩
 · cases e:H b with
   | none=>exact absurd e (I.xZ b hb)
   | some o=>rw [s0 _ _ e]; simp
 · have w:(fun u=>q (.fr u))=fun u=>((.vw .aT:Rt) = .vw .aT∧∃ u',[u]=[u']∧q (.fr u')):=by
    funext u
    exact propext ⟨fun h=>⟨rfl,u,rfl,h⟩,fun ⟨_,u',e,h⟩=>by cases e; exact h⟩
   rw [← w]; exact hG
 · obtain ⟨rfl,u,rfl,hq⟩:=hr
   obtain ⟨z1,z2⟩:=z
   simp only [At] at z1
   refine ⟨z1,?_⟩
   cases z2 with
   | cons r _ =>
     have s:aN H H':=fun b o e=>fr b o (s0 b o e) (by rw [kZ]; exact a9 e hx)
     obtain ⟨o,eo,_⟩:=r.mut
     refine k _ hq _ H' s ⟨x,rfl,I.ES hx s eo,r.aX fun c hc=>?_,n3,n2⟩
     rcases dQ c hc with z | z
     · exact bO _ z
     · rw [z]; exact cq _ c6
end
structure Dc (K:KFr) (mg:Str→Option Value) (cls qual:Str) (st:Stmt) (ps:List Str) (C f:Addr) (fd:FuncData):Prop where
 F:AE K "__init__" qual st f fd
 m:mg cls=some (.ref C)
 b:Binds K fd ps []
 M:Mk K C f
def FC (P:Program) (w:World) (K:KFr) (mg:Str→Option Value) (base:Heap) (cls:Str) (C:Addr) (ps:List Str) (k n:Nat) (G:List T→(T→Prop)→Prop):Prop :=
 ∃ f fd,Mk K C f∧mg cls=some (.ref C)∧Binds K fd ps []∧b_ P w K mg base dI k f fd ps (Ny K C n G)
section
variable {P:Program} {w:World} {K:KFr} {mg:Str→Option Value} {base:Heap}
theorem Dc.gJ {cls qual:Str} {st:Stmt} {ps:List Str} {C f:Addr} {fd:FuncData} {k n:Nat} {G:List T→(T→Prop)→Prop} (D:Dc K mg cls qual st ps C f fd) (F:b_ P w K mg base dI k f fd ps (Ny K C n G)):FC P w K mg base cls C ps k n G :=
 ⟨f,fd,D.M,D.m,D.b,F⟩
theorem fnI {x qual:Str} {st:Stmt} {f C:Addr} {fd:FuncData} {N ps:List Str} {k n:Nat} {G:List T→(T→Prop)→Prop} (F:AE K x qual st f fd) (S:aC N ps (ah st)) (hn:n+1=ps.length)
  (cb:∀ (bu:Value) (A:Around) (outer:List Env) (s:Shared) (H:Hp) (E:XK) (as Ox:List Addr),bz k (A.deeper (envOfC qual (ah st) s.heap.objs.size f bu))→∀ (us:List T) (q:List T→Rt→Prop),us.length=n→G us (fun u=>q [u] (.vw .aT)) →
    ∃ g,m8 (eG dI P w K mg base N qual (ah st) f bu A outer s H E).nZ ⟨H,pz (true :: List.replicate n false) as 0,Ox⟩ (bA st) g ∧
     g { nx:=fun ρ=>q (oA (true :: List.replicate n false) ρ) (.vw .aT),rt:=fun ρ r=>q (oA (true :: List.replicate n false) ρ) r } (some (.ins C [] [],true) :: x3 (List.replicate n false) us ++ List.replicate (N.length - (us.length+1)) none)) :
  b_ P w K mg base dI (k+1) f fd ps (Ny K C n G) :=
 fnV F S (by rw [← hn]; simp) fun bu A outer s H E as Ox hr ts q hl hG=>by
  cases ts with
  | nil=>exact hG.elim
  | cons t us=>cases t with
    | ins C' ns vs=>cases ns with
      | nil=>cases vs with
        | nil =>
          obtain ⟨e,hG'⟩:=hG
          subst e
          exact cb bu A outer s H E as Ox hr us q (by simpa using hl) hG'
        | cons _ _=>exact hG.elim
      | cons _ _=>exact hG.elim
    | _=>exact hG.elim
end
def A1 (a d:Addr):HO:=.ext fun h=>h.get? a=some { cls:=.type "dict_values",data:=.fields #[.ref d] }
theorem we (val:Nat→Int):∀ k,∃ j≤k,argBest (fun i j=>decide (val i < val j)) k=j∧∀ i≤k,val j≤val i
 | 0=>⟨0,dm _,rfl,fun i hi=>by rw [Nat.le_zero.mp hi]; exact Int.le_refl _⟩
 | k+1=>by
   obtain ⟨j,hj,e,h⟩:=we val k
   unfold argBest
   rw [e]
   by_cases q:val (k+1) < val j
   · rw [if_pos (decide_eq_true q)]
     refine ⟨k+1,dm _,rfl,fun i hi=>?_⟩
     rcases Nat.lt_or_eq_of_le hi with l | l
     · exact Int.le_trans (Int.le_of_lt q) (h i (Nat.le_of_lt_succ l))
     · rw [l]; exact Int.le_refl _
   · rw [if_neg (by rw [decide_eq_true_eq]; exact q)]
     refine ⟨j,Nat.le_succ_of_le hj,rfl,fun i hi=>?_⟩
     rcases Nat.lt_or_eq_of_le hi with l | l
     · exact h i (Nat.le_of_lt_succ l)
     · rw [l]; exact Int.not_lt.mp q
section
variable {X:Cx}
theorem Cq:MX X "dict.values" (fun x xs H Q=>∃ (d:Addr) (aY:List (Key×V)),x = .ref d∧xs=[]∧H d=some (.dK aY)∧∀ a,H a=none→Q (.ref a) (upd H a (A1 a d))):=by
 intro pins s σ H x xs v us Q I rx rs h
 obtain ⟨d,aY,rfl,rfl,hd,q⟩:=h
 cases rx
 cases rs
 obtain ⟨z,hs,vs,rel,dd⟩:=AV I.cg hd
 refine call_meetsIn PySem.F.slot_dict_values dd.typeIs PySem.F.entry_dict_values (PySem.F.args_dict_values_1 _) (meets_dict_values (bG X.prog X.w) d hs) ⟨⟨vs,dd⟩,?_⟩
 refine ⟨.ref s.heap.objs.size,_,I.laid (a:=s.heap.objs.size) (t':=s.toks) (fun b o e=>fH _ e) (dm _) ?_,rfl,q _ I.fresh⟩
 exact ⟨mZ _ rfl,⟨_,mZ _ rfl⟩,fun h1 h2 z k=>k _ z⟩
theorem tT (hc:X.calm=true):dA X (.builtin "min") (fun xs H Q=>∃ (a d:Addr) (aY:List (Key×V)) (is:List Int),xs=[.ref a]∧H a=some (A1 a d)∧H d=some (.dK aY)∧aY.map (·.2)=is.map V.int∧is≠[]∧∀ m,m∈is→(∀ i∈is,m≤i)→Q (.int m) H):=by
 intro pins s σ H xs us Q I r h
 obtain ⟨a,d,aY,is,rfl,ha,hd,hv,eK,q⟩:=h
 obtain ⟨u,rfl,ru⟩:=vals1 r
 cases ru
 obtain ⟨z,hs,vs,rel,dd⟩:=AV I.cg hd
 obtain ⟨hA,_,_⟩:=(show cw X.prog X.w H s.heap a (A1 a d) from I.cg a _ ha)
 obtain ⟨ep,da⟩:=dd.dictAt
 have hh:X.A.in1.handled=none:=by simp [I.ok.hd hc]
 have hlen:vs.length=is.length:=by
  have:=congrArg List.length hv
  rw [cU,cU] at this
  rw [← rel.length]; exact this
 have U':∀ (i:Nat) (v:Value),(∃ k,vs[i]?=some (k,v))→∃ t,v = .int (is.getD i 0) t:=by
  intro i v ⟨k,e⟩
  have hi:i < vs.length:=(fG.mp e).1
  have hi2:i < aY.length:=by rw [rel.length]; exact hi
  have e1:aY[i]?=some aY[i]:=by simp [hi2]
  have key:∀ {l₁:List (Key×V)} {l₂:List (Key×Value)} {i:Nat} {p:Key×V} {q:Key×Value},KV l₁ l₂→l₁[i]?=some p→l₂[i]?=some q→RelV p.2 q.2:=by
   intro l₁ l₂ i p q h
   unfold KV at h
   induction h generalizing i with
   | nil=>intro e; simp at e
   | cons r t ih =>
     intro e e'
     cases i with
     | zero=>simp at e e'; subst e; subst e'; exact r.2
     | succ i=>exact ih (by simpa using e) (by simpa using e')
  have rr:=key rel e1 e
  have e2:(aY.map (·.2))[i]?=some aY[i].2:=by rw [i4,e1]; rfl
  rw [hv,i4] at e2
  cases q2:is[i]? with
  | none=>rw [q2] at e2; cases e2
  | some m =>
    rw [q2] at e2
    have e3:aY[i].2=V.int m:=(Option.some.inj e2).symm
    rw [e3] at rr
    obtain ⟨t,et⟩:=rr
    exact ⟨t,by rw [YF,q2]; exact et⟩
 have hn0:0 < vs.length:=by rw [hlen]; exact List.length_pos_iff.mpr eK
 refine call_min_walk (wpAny_pyIter_values ⟨_,hA,rfl,rfl⟩ da ?_)
 refine ⟨_,_,_,_,_,_,_,rfl,Walks.dictValues hh _ d (j4 da.lt_size) vs ep,⟨⟨_,mZ _ rfl,rfl,rfl⟩,da.push _⟩,fun b hb=>?_,hn0,CmpOf.ints_lt (fun i=>is.getD i 0) U',fun v h' tk hP hk=>?_⟩
 · show b < (s.heap.push _).objs.size
   rw [DY]
   rcases cY.mp hb with rfl | hb
   · exact DW _
   · rw [kZ.mp hb]; exact SA da.lt_size
 · obtain ⟨j,hj,e,hm⟩:=we (fun i=>is.getD i 0) (vs.length - 1)
   rw [e] at hP
   obtain ⟨t,rfl⟩:=U' j v hP
   have Yg:j < is.length:=by omega
   refine ⟨.int (is.getD j 0),H,I.kept (t':=tk) fun b u eb=>hk b u (fun z=>?_) (fH _ eb),⟨t,rfl⟩,q _ ?_ fun i hi=>?_⟩
   · rw [kZ.mp z] at eb
     exact absurd (fq eb) (DG _)
   · rw [YF,qe Yg]; exact Oj Yg
   · obtain ⟨n,hn⟩:=YE.mp hi
     have hnl:n < is.length:=(fG.mp hn).1
     have:=hm n (by omega)
     have e5:is.getD n 0=i:=by rw [YF,hn]; rfl
     rw [e5] at this
     exact this
end
section
variable {X:Cx} {Z:Zc} {a:Expr} {fa:FE} {p1 apos Kq Cm:Pos}
def Va (fa:FE):FP:=fun ρ Q=>fa ρ fun x=>match x with
 | .dk ks ts=>∃ is,ts=is.map T.int∧is≠[]∧∀ m,m∈is→(∀ i∈is,m≤i)→Q (.vw (.int m))
 | _=>False
theorem yN (hc:X.calm=true) (hgl:Gl X "min") (hml:X.mg "min" = none) (ha:VR X Z a fa)
  (c7:attributeBase a "values" X.env (eval a X.env)=eval a X.env:=by rfl) (c8:(apos.endLine == Cm.line)=true:=by rfl)
  (he:starEach [.Call (.Attribute a "values" apos) [] [] Cm] X.env=(false,eval (.Call (.Attribute a "values" apos) [] [] Cm) X.env) :: starEach [] X.env:=by rfl) (jy:(backTo Kq (starEach [] X.env)).any (·.1)=false:=by rfl) :
  VP X Z (.Call (.Name "min" p1) [.Call (.Attribute a "values" apos) [] [] Cm] [] Kq) (Va fa):=.mk fun tm =>
 PE.weak (og (tT hc) hgl hml UX (bw (sR Xz PySem.F.slot_dict_values PySem.F.type_dict_values Cq (ha tm) c7 c8) cO he) (by decide) (by decide) he jy) fun σ H Q ⟨ρ,O,q,I,hf,k⟩ =>
  ⟨ρ,O,_,I,hf,fun x hx v H1 s1 a1=>by
    split at hx
    · rename_i ks ts
      obtain ⟨is,rfl,eK,hq⟩:=hx
      obtain ⟨d,vs,rfl,hl,hd,hv⟩:=a1.dk
      refine ⟨.inr (.inr (.inl ⟨rfl,.inl ⟨_,hd⟩⟩)),d,_,rfl,rfl,hd,fun b hb=>?_⟩
      have sb:aN H1 (upd H1 b (A1 b d)):=aG hb
      have ev:vs=is.map V.int:=by
       clear hq eK hl hd a1
       induction is generalizing vs with
       | nil=>simpa only [ME,az] using hv
       | cons i is ih =>
         simp only [i5,az,At] at hv
         obtain ⟨v,r,rfl,rfl,h2⟩:=hv
         rw [ih r h2]; rfl
      subst ev
      refine ⟨b,d,_,is,rfl,aI,sb _ _ hd,?_,eK,fun m h1 h2=>k _ (hq m h1 h2) _ _ (s1.trans sb) ⟨(I.same s1).same sb,bb⟩⟩
      rw [List.map_snd_zip]
      rw [hl]; exact dm _
    · exact hx.elim⟩
end
structure FD (K:KFr) (H H':Hp) (Ox:List Addr) (us:List T) (p:Addr) (ls:List Addr):Prop where
 same:aN H H'
 tup:H' p=some (.tup (ls.map V.ref))
 nd:ls.Nodup
 new:∀ a∈ls,H a=none
 rts:Paired (fun a t=>cC K H' (ls ++ Ox) a t) ls us
def Vb (K:KFr) (n:Nat) (G:List T→(List T→Prop)→Prop):Sp:=fun vs H Q _=>∃ ts Ox q,(∀ a∈Ox,H a≠none)∧az K H Ox ts vs∧ts.length=n∧G ts q ∧
 ∀ us,q us→∀ p ls H',FD K H H' Ox us p ls→Q (.ref p) H'
structure acm (K:KFr) (Z:Zc) (tm:List (T×V)) (d:EN) (dp:List T→Prop) (D:Ends):Prop where
 fin:Fin K Z tm d D
 dp:∀ us,dp us→∀ p ls H',FD K Z.H0 H' Z.Ox us p ls→D.rt (.ref p) H'
abbrev Qd:=EN→(List T→Prop)→En→Prop
def lSD (X:Cx) (Z:Zc) (tm:List (T×V)) (g:Qd):TS:=fun D σ H=>∃ ρ O d dp,ax X.K Z tm O ρ σ H∧g d dp ρ∧acm X.K Z tm d dp D
def FH (X:Cx) (Z:Zc) (st:List Stmt) (g:Qd):Prop:=Bx fun tm=>gG X st (lSD X Z tm g)
instance {X:Cx} {Z:Zc} {st:List Stmt} {g:Qd}:CoeFun (FH X Z st g) fun _=>∀ tm,gG X st (lSD X Z tm g):=⟨fun h=>Bx.h h⟩
def Ku (ρ:En):List Nat→Option (List T)
 | []=>some []
 | i :: is=>match ρ[i]?,Ku ρ is with
   | some (some (t,true)),some ts=>some (t :: ts)
   | _,_=>none
section
variable {X:Cx} {Z:Zc} {st:Stmt} {rest:List Stmt} {g:FS} {u:Qd} {pos:Pos}
def Vc (g:FS) (u:Qd):Qd:=fun d dp ρ=>g { d with nx:=u d dp } ρ
theorem gy (h1:VS X Z st g) (h2:FH X Z rest u):FH X Z (st :: rest) (Vc g u):=.mk fun tm=>gG.h_ (bR (h1 tm) (h2 tm)) fun D σ H ⟨ρ,O,d,dp,I,h,F⟩ =>
 ⟨ρ,O,{ d with nx:=u d dp },I,h,⟨fun O' ρ' σ' H' I' h'=>⟨ρ',O',d,dp,I',h',F⟩,F.fin.rt,F.fin.bk,F.fin.ct⟩⟩
def tU (X:Cx):List Expr→List Nat→Prop
 | [],is=>is=[]
 | e :: es,is=>∃ x p i js,e = .Name x p∧is=i :: js∧X.N[i]?=some x∧j5 X.env.scope x∧(x == ("__debug__" : Str))=false∧(x == ("__classdict__" : Str))=false∧starEach (e :: es) X.env=(false,eval e X.env) :: starEach es X.env∧tU X es js
def Vd (is:List Nat):TA:=fun σ H Q=>∃ vs,Paired (fun (i:Nat) (v:V)=>σ[i]?=some (some v)) is vs∧Q vs H
theorem A2:∀ {es:List Expr} {is:List Nat},tU X es is→PA X es (Vd is)
 | [],is,h=>fun pos pins s σ H Q I ⟨vs,hv,q⟩=>by
   have e:is=[]:=h
   subst e
   cases hv
   exact cO pos pins s σ H Q I q
 | e :: es,is,h=>by
   obtain ⟨x,p,i,js,rfl,rfl,h1,h2,h3,h4,h5,h6⟩:=h
   exact PA.weak (bw (bT h1 h2 h3 h4) (A2 h6) h5) fun σ H Q ⟨vs,hv,q⟩=>by
    cases hv with
    | cons r t=>exact ⟨_,r,_,t,q⟩
theorem wg {K:KFr} {tm:List (T×V)} {O:List (Option Addr)} {ρ:En} {σ:St} {H:Hp} (I:ax K Z tm O ρ σ H):∀ {is:List Nat} {ts:List T},Ku ρ is=some ts →
  ∃ ls:List Addr,Paired (fun (i:Nat) (v:V)=>σ[i]?=some (some v)) is (ls.map V.ref)∧Paired (fun (i:Nat) (a:Addr)=>O[i]?=some (some a)) is ls∧Paired (fun a t=>cC K H (av Z O) a t) ls ts
 | [],ts,h=>by cases h; exact ⟨[],.nil,.nil,.nil⟩
 | i :: is,ts,h=>by
   simp only [Ku] at h
   split at h
   · rename_i t us e1 e2
     cases h
     obtain ⟨a,h1,h2,h3⟩:=I.root e1
     obtain ⟨ls,g1,g2,g3⟩:=wg I e2
     exact ⟨a :: ls,.cons h2 g1,.cons h1 g2,.cons h3 g3⟩
   · cases h
theorem gc {α β:Type} {R:α→β→Prop} {l:List α} {m:List β} (h:Paired R l m) {b:β} (hb:b∈m):∃ a∈l,R a b:=by
 induction h with
 | nil=>cases hb
 | cons r t ih =>
   rcases cY.mp hb with e | hb
   · subst e; exact ⟨_,c6,r⟩
   · obtain ⟨a,h1,h2⟩:=ih hb; exact ⟨a,eB _ h1,h2⟩
theorem yO {K:KFr} {tm:List (T×V)} {O:List (Option Addr)} {ρ:En} {σ:St} {H:Hp} (I:ax K Z tm O ρ σ H) {is:List Nat} {ls:List Addr} (nd:is.Nodup) (h:Paired (fun (i:Nat) (a:Addr)=>O[i]?=some (some a)) is ls):ls.Nodup:=by
 induction h with
 | nil=>exact MD
 | cons r t ih =>
   rw [jI] at nd ⊢
   refine ⟨fun m=>?_,ih nd.2⟩
   obtain ⟨j,hj,e⟩:=gc t m
   exact nd.1 (by rw [UN I r e]; exact hj)
def Nz (is:List Nat):Qd:=fun _ dp ρ=>match Ku ρ is with
 | some ts=>dp ts
 | none=>False
theorem Kv {es:List Expr} {is:List Nat} {x1} {p:Pos} (hP:Z.P=[]) (hn:tU X es is) (nd:is.Nodup) (hl:is.length≤100):FH X Z [.Return (some (.Tuple es x1 p)) pos] (Nz is):=.mk fun tm =>
 i7 (PS.weak (sI (yo (A2 hn))) fun D σ H ⟨ρ,O,d,dp,I,h,F⟩=>by
  unfold Nz at h
  split at h
  · rename_i ts e
    obtain ⟨ls,g1,g2,g3⟩:=wg I e
    refine ⟨ls.map V.ref,g1,?_,fun q hq=>F.dp ts h q ls _ ⟨?_,aI,yO I nd g2,fun a ha=>?_,?_⟩⟩
    · rw [cU,← Paired.length g2,sizeLine_eq]; omega
    · intro b o eb
      have:=I.keep b o eb (by rw [hP]; exact fun z=>nomatch z)
      rw [aA (a9 this hq)]; exact this
    · obtain ⟨i,_,e⟩:=gc g2 ha
      rcases (I.own a (aK.mpr (ik e))).1 with z | z
      · rw [hP] at z; exact nomatch z
      · exact z
    · refine Paired.qj g3 fun a t r=>(r.same (aG hq)).aX fun b hb=>?_
      rcases cA.mp hb with z | z
      · obtain ⟨i,_,e⟩:=gc g2 z
        exact cq _ (aK.mpr (ik e))
      · exact bO _ z
  · exact h.elim)
end
section
variable {P:Program} {w:World} {K:KFr} {mg:Str→Option Value} {base:Heap}
theorem cW (n:Nat):roots (List.replicate n none)=[]:=by
 unfold roots
 induction n with
 | zero=>rfl
 | succ n ih=>rw [Ao,mx]; exact ih
theorem i' {N:List Str} {H:Hp} {Ox:List Addr} {ts:List T} {vs:List V} (hN:ts.length≤N.length) (ox:∀ a∈Ox,H a≠none) (h:az K H Ox ts vs) :
  ax K ⟨H,[],Ox⟩ [] (List.replicate N.length none) (ts.map (fun t=>some (t,false)) ++ List.replicate (N.length - ts.length) none) (start N vs) H:=by
 have hl:=h.length
 have ea:av ⟨H,[],Ox⟩ (List.replicate N.length none)=Ox:=by unfold av; rw [cW]; rfl
 refine ⟨?_,by simp; omega,fun i e he=>?_,by rw [cW]; exact MD,fun a ha=>?_,fun p hp=>(nomatch hp),ox,fun b o e _=>e,fun p hp=>(nomatch hp)⟩
 · unfold L2.start; simp [hl]
 · rw [ea]
   by_cases hi:i < ts.length
   · rw [qh (by simpa using hi),i4] at he
     have e1:ts[i]?=some ts[i]:=by simp
     rw [e1] at he
     cases he
     obtain ⟨v,h1,h2⟩:=h.get e1
     refine ⟨none,some v,by rw [BB,if_pos (by omega)],?_,rfl,v,rfl,h2⟩
     unfold L2.start
     rw [qh (by rw [cU]; omega),i4,h1]
     rfl
   · rw [uX (by simpa using hi),BB] at he
     split at he
     · rename_i il
       cases he
       rw [cU] at il
       refine ⟨none,none,by rw [BB,if_pos (by omega)],?_,rfl⟩
       unfold L2.start
       rw [uX (by rw [cU]; omega),BB,cU,if_pos (by omega)]
     · cases he
 · rw [cW] at ha; exact nomatch ha
theorem fnD {x qual:Str} {st:Stmt} {f:Addr} {fd:FuncData} {N ps:List Str} {k n:Nat} {G:List T→(List T→Prop)→Prop} (F:AE K x qual st f fd) (S:aC N ps (ah st)) (hn:n=ps.length) (hN:n≤N.length)
  (cb:∀ (bu:Value) (A:Around) (outer:List Env) (s:Shared) (H:Hp) (E:XK) (Ox:List Addr),bz k (A.deeper (envOfC qual (ah st) s.heap.objs.size f bu))→∀ ts q,G ts q →
    ∃ g,FH (eG dI P w K mg base N qual (ah st) f bu A outer s H E).nZ ⟨H,[],Ox⟩ (bA st) g∧(ts.length=n→g { nx:=fun _=>False,rt:=fun _ _=>False } q (ts.map (fun t=>some (t,false)) ++ List.replicate (N.length - ts.length) none))) :
  b_ P w K mg base dI (k+1) f fd ps (Vb K n G):=by
 refine F.ok S (fun vs H Q E h=>?_) (fun bu A outer s H vs Q E hr h=>?_)
 · obtain ⟨ts,Ox,q,_,ha,hl,_⟩:=h
   rw [ha.length,hl,hn]
 · obtain ⟨ts,Ox,q,ox,ha,hl,hG,kk⟩:=h
   obtain ⟨g,hg,hq⟩:=cb bu A outer s H E Ox hr ts q hG
   exact ⟨_,hg [],_,_,_,q,i' (by omega) ox ha,hq hl,⟨⟨fun _ _ _ _ _ h=>h.elim,fun _ _ _ _ _ _ _ h=>h.elim,fun _ _ _ _ _ h=>h.elim,fun _ _ _ _ _ h=>h.elim⟩,fun us hu p ls H' D=>kk us hu p ls H' D⟩⟩
end
section
variable {X:Cx} {Z:Zc} {k n:Nat} {f:Addr} {fd:FuncData} {ps:List Str} {G:List T→(List T→Prop)→Prop} {x:Str} {p pos:Pos} {e:Expr} {es:List Expr} {g:FA}
def lD (X:Cx) (Z:Zc) (tm:List (T×V)) (f:En→(List T→Prop)→Prop):TE:=fun σ H Q=>∃ ρ O q,ax X.K Z tm O ρ σ H∧f ρ q∧∀ us,q us→∀ p ls H',FD X.K H H' (av Z O) us p ls→Q (.ref p) H'
def VD (X:Cx) (Z:Zc) (e:Expr) (f:En→(List T→Prop)→Prop):Prop:=Bx fun tm=>PE X e (lD X Z tm f)
instance {X:Cx} {Z:Zc} {e:Expr} {f:En→(List T→Prop)→Prop}:CoeFun (VD X Z e f) fun _=>∀ tm,PE X e (lD X Z tm f):=⟨fun h=>Bx.h h⟩
def Qe (n:Nat) (g:FA) (G:List T→(List T→Prop)→Prop):En→(List T→Prop)→Prop:=fun ρ Q=>g ρ fun ts=>ts.length=n∧G ts Q
theorem Kw (F:b_ X.prog X.w X.K X.mg X.base dI k f fd ps (Vb X.K n G)) (hr:bz k X.A) (hg:Gl X x) (hm:X.mg x=some (.ref f)) (hk:PySem.W.keepIn X.K (.ref f)=true) (hb:Binds X.K fd ps []) (ha:VA X Z (e :: es) g)
  (qm:ic x:=by decide) (he:starEach (e :: es) X.env=(false,eval e X.env) :: starEach es X.env:=by rfl) (jy:(backTo pos (starEach es X.env)).any (·.1)=false:=by rfl) :
  VD X Z (.Call (.Name x p) (e :: es) [] pos) (Qe n g G):=.mk fun tm=>PE.weak (j9 F hr hg hm hk hb .nil jz (ha tm) qm he jy) fun σ H Q ⟨ρ,O,q,I,hf,k⟩ =>
 ⟨ρ,O,_,I,hf,fun ts eL vs H1 s1 a1=>by
   show Vb X.K n G (vs ++ []) H1 Q E0
   rw [IC]
   refine ⟨ts,av Z O,q,(I.same s1).xZ,a1,eL.1,eL.2,fun us hu p ls H' D=>k us hu p ls H' ⟨s1.trans D.same,D.tup,D.nd,fun a ha=>?_,D.rts⟩⟩
   cases z:H a with
   | none=>rfl
   | some o=>have:=D.new a ha; rw [s1 _ _ z] at this; cases this⟩
theorem FD.at {K:KFr} {tm:List (T×V)} {O:List (Option Addr)} {ρ:En} {σ:St} {H H':Hp} {us:List T} {p:Addr} {ls:List Addr} (I:ax K Z tm O ρ σ H) (D:FD K H H' (av Z O) us p ls):At K H' (av Z O) (.tup us) (.ref p):=by
 refine bX (dG.of D.tup) (az.iff.mpr ?_)
 have key:∀ {Yh:List Addr} {SR:List T},(∀ a∈Yh,a∈ls)→Paired (fun a t=>cC K H' (ls ++ av Z O) a t) Yh SR→Paired (fun v t=>At K H' (av Z O) t v) (Yh.map V.ref) SR:=by
  intro Yh SR sub h
  induction h with
  | nil=>exact .nil
  | cons r t ih =>
    refine .cons ((r.aX fun b hb=>bO _ hb).at fun z=>?_) (ih fun a ha=>sub a (eB _ ha))
    exact I.xZ _ z (D.new _ (sub _ c6))
 exact key (fun _ h=>h) D.rts
def Ve (f:En→(List T→Prop)→Prop):FP:=fun ρ Q=>f ρ fun us=>Q (.vw (.tup us))
theorem VD.vp {f:En→(List T→Prop)→Prop} (h:VD X Z e f):VP X Z e (Ve f):=.mk fun tm=>PE.weak (h tm) fun σ H Q ⟨ρ,O,q,I,hf,k⟩ =>
 ⟨ρ,O,_,I,hf,fun us hu p ls H' D=>k _ hu _ H' D.same ⟨I.same D.same,D.at I⟩⟩
end
theorem ax.mM {K:KFr} {Z:Zc} {tm:List (T×V)} {O:List (Option Addr)} {ρ:En} {σ:St} {H:Hp} (I:ax K Z tm O ρ σ H) {i:Nat} (s:Option V) (hp:br Z i):ax K Z tm (O.set i none) (ρ.set i none) (σ.set i s) H:=by
 have J:=I.forget hp
 refine ⟨by simp [I.lσ],J.lO,fun j e h=>?_,J.nd,J.own,J.par,J.ox,J.keep,J.m6⟩
 obtain ⟨o,w,h1,h2,h3⟩:=J.sl j e h
 rcases get_set h with ⟨rfl,rfl,hl⟩ | ⟨ne,h'⟩
 · exact ⟨o,s,h1,by rw [Am (by rw [I.lσ]; exact hl)],h3⟩
 · exact ⟨o,w,h1,by rw [rf (Ne.symm ne)]; exact h2,h3⟩
section
variable {X:Cx} {Z:Zc}
end
section
variable {X:Cx} {Z:Zc}
end
def Qf (X:Cx) (i:Nat) (y:Str):Cx:={ X with N:=X.N.set i y }
theorem Qg {X:Cx} {i:Nat} {y:Str} (o:X.Ok):(Qf X i y).Ok :=
 ⟨o.mod,o.kind,o.glob,o.blt,o.above,o.inj,o.has,o.OA,o.hd,o.frames,o.SH,o.XR,o.bs,o.DI,o.x_,o.BH,o.j6,o.I9⟩
theorem FJ {X:Cx} {i:Nat} {y:Str} (o:(Qf X i y).Ok):X.Ok :=
 ⟨o.mod,o.kind,o.glob,o.blt,o.above,o.inj,o.has,o.OA,o.hd,o.frames,o.SH,o.XR,o.bs,o.DI,o.x_,o.BH,o.j6,o.I9⟩
theorem Kx {X:Cx} {pins:List (Addr×Obj)} {σ:St} {H:Hp} {s:Shared} (i:Nat) (y:Str) (I:Inv X pins σ H s):Inv (Qf X i y) pins (σ.set i none) H s:=by
 obtain ⟨m,hn,hl⟩:=I.loc
 refine ⟨Qg I.ok,I.os,I.bare,I.base,⟨m,hn,fun j x v h1 h2 h3=>?_⟩,I.cell,I.free,I.gm,I.pin,I.cg,?_⟩
 · rcases get_set h2 with ⟨_,e,_⟩ | ⟨ne,h2⟩
   · cases e
   · have IP:(X.N.set i y)[j]?=some x:=h1
     rw [rf (Ne.symm ne)] at IP
     exact hl j x v IP h2 h3
 · show (σ.set i none).length=(X.N.set i y).length
   rw [ID,ID]; exact I.len
theorem ja {X:Cx} {pins:List (Addr×Obj)} {σ:St} {H:Hp} {s:Shared} {i:Nat} {y:Str} (I:Inv (Qf X i y) pins σ H s):Inv X pins (σ.set i none) H s:=by
 obtain ⟨m,hn,hl⟩:=I.loc
 refine ⟨FJ I.ok,I.os,I.bare,I.base,⟨m,hn,fun j x v h1 h2 h3=>?_⟩,I.cell,I.free,I.gm,I.pin,I.cg,?_⟩
 · rcases get_set h2 with ⟨_,e,_⟩ | ⟨ne,h2⟩
   · cases e
   · refine hl j x v ?_ h2 h3
     show (X.N.set i y)[j]?=some x
     rw [rf (Ne.symm ne)]; exact h1
 · have:=I.len
   have e:(Qf X i y).N.length=X.N.length:=by show (X.N.set i y).length=_; rw [ID]
   rw [ID]; omega
def FK (i:Nat) (d:EN):EN:={ nx:=fun ρ=>d.nx (ρ.set i none),rt:=fun ρ r=>d.rt (ρ.set i none) r,bk:=fun ρ=>d.bk (ρ.set i none),ct:=fun ρ=>d.ct (ρ.set i none) }
def Vf (i:Nat) (g:FS):FS:=fun d ρ=>g (FK i d) (ρ.set i none)
def FQ (i:Nat) (D:Ends):Ends:={ nx:=fun σ H=>D.nx (σ.set i none) H,rt:=D.rt,bk:=fun σ H=>D.bk (σ.set i none) H,ct:=fun σ H=>D.ct (σ.set i none) H }
theorem fD.mM {K:KFr} {Z:Zc} {tm:List (T×V)} {O:List (Option Addr)} {ρ:En} {σ:St} {H:Hp} {i:Nat} {r:Rt} {v:V} (s:Option V) (hp:br Z i) (h:fD K Z tm O ρ σ H r v):fD K Z tm (O.set i none) (ρ.set i none) (σ.set i s) H r v:=by
 cases r with
 | vw t=>exact ⟨h.1.mM s hp,h.2.aX (bV i)⟩
 | fr t =>
   obtain ⟨a,e,I,q,h0⟩:=h
   exact ⟨a,e,I.mM (Z:=Z.ex a) s hp,q.aX (bV i),h0⟩
theorem FR {K:KFr} {Z:Zc} {tm:List (T×V)} {d:EN} {D:Ends} {i:Nat} (hp:br Z i) (F:Fin K Z tm d D):Fin K Z tm (FK i d) (FQ i D) :=
 ⟨fun O ρ σ H I h=>F.nx _ _ _ H (I.mM none hp) h,fun O ρ σ H r v z h=>F.rt _ _ _ H r v (z.mM none hp) h,fun O ρ σ H I h=>F.bk _ _ _ H (I.mM none hp) h,fun O ρ σ H I h=>F.ct _ _ _ H (I.mM none hp) h⟩
section
variable {X:Cx} {Z:Zc} {st:Stmt} {sts:List Stmt} {g:FS}
theorem Kz {pins:List (Addr×Obj)} {D:Ends} {i:Nat} {y:Str}:∀ {f:Flow} {s':Shared},SP (Qf X i y) pins (FQ i D) f s'→SP X pins D f s'
 | .next,s',⟨σ',H',I,q⟩=>⟨σ'.set i none,H',ja I,q⟩
 | .brk,s',⟨σ',H',I,q⟩=>⟨σ'.set i none,H',ja I,q⟩
 | .cont,s',⟨σ',H',I,q⟩=>⟨σ'.set i none,H',ja I,q⟩
 | .ret u,s',⟨v,σ',H',I,r,q⟩=>⟨v,σ'.set i none,H',ja I,r,q⟩
theorem tV (i:Nat) (y:Str) (hp:br Z i) (h:VS (Qf X i y) Z st g):VS X Z st (Vf i g):=.mk fun tm pins s σ H D I ⟨ρ,O,d,J,q,F⟩ =>
 cm (h tm pins s (σ.set i none) H (FQ i D) (Kx i y I) ⟨ρ.set i none,O.set i none,FK i d,J.mM none hp,q,FR hp F⟩) fun f s' z=>Kz z
end
section
variable {X:Cx} {Z:Zc} {o e:Expr} {fo fe:FE} {apos aW:Pos}
def KA (fo fe:FE):FP:=fun ρ Q=>fo ρ fun x=>match x with
 | .str z=>fe ρ fun y=>match y with
   | .str y=>Q (.vw (.bl (Txt.startswith z y)))
   | _=>False
 | _=>False
theorem Cr (ho:VR X Z o fo) (he:VR X Z e fe) (c7:attributeBase o "startswith" X.env (eval o X.env)=eval o X.env:=by rfl)
  (la:((backTo aW (starEach [e] X.env)).all (fun x=>!x.1) && (backToKw aW (keywordEach [] X.env)).all (fun x=>x.1.isSome)
    && decide (([e]:List Expr).length+([]:List Keyword).length+(if ([]:List Keyword).isEmpty then 0 else 1) < 30))=true:=by rfl)
  (c8:(apos.endLine == aW.line)=true:=by rfl) (hs:starEach [e] X.env=(false,eval e X.env) :: starEach [] X.env:=by rfl) (dP:(backTo aW (starEach [] X.env)).any (·.1)=false:=by rfl) :
  VP X Z (.Call (.Attribute o "startswith" apos) [e] [] aW) (KA fo fe):=.mk fun tm =>
 PE.weak (rD PySem.F.plainAttrs_str PySem.F.slot_str_startswith PySem.F.type_str_startswith qp (ho tm) (bw (he tm) cO hs) c7 la c8 hs dP) fun σ H Q ⟨ρ,O,q,I,hf,k⟩ =>
  ⟨ρ,O,_,I,hf,fun x hx v H1 s1 a1=>by
    split at hx
    · rename_i z
      have ev:=a1.str
      subst ev
      refine ⟨rfl,ρ,O,_,I.same s1,hx,fun y hy w H2 s2 a2=>?_⟩
      split at hy
      · have ew:=a2.str
        subst ew
        exact ⟨z,_,rfl,rfl,k _ hy _ H2 (s1.trans s2) ⟨(I.same s1).same s2,dJ⟩⟩
      · exact hy.elim
    · exact hx.elim⟩
end
section
variable {X:Cx} {Z:Zc} {o e:Expr} {fo fe:FE} {apos aW:Pos}
def Vg (fo:FE) (g:FA):FP:=fun ρ Q=>fo ρ fun x=>match x with
 | .str z=>g ρ fun y=>∃ ys:List Str,y=[.lst (ys.map .str)]∧(ys.map (·.length)).sum+ys.length * z.length≤16777216∧Q (.vw (.str (Txt.join z ys)))
 | _=>False
theorem wj {K:KFr} {H:Hp} {A:List Addr}:∀ {ys:List Str} {vs:List V},az K H A (ys.map .str) vs→vs=ys.map V.str
 | [],vs,h=>by simpa only [ME,az] using h
 | y :: ys,vs,h=>by
   simp only [i5,az,At] at h
   obtain ⟨v,r,rfl,rfl,h⟩:=h
   rw [wj h]; rfl
theorem rR {g:FA} (ho:VR X Z o fo) (he:MY X Z [e] g) (c7:attributeBase o "join" X.env (eval o X.env)=eval o X.env:=by rfl)
  (la:((backTo aW (starEach [e] X.env)).all (fun x=>!x.1) && (backToKw aW (keywordEach [] X.env)).all (fun x=>x.1.isSome)
    && decide (([e]:List Expr).length+([]:List Keyword).length+(if ([]:List Keyword).isEmpty then 0 else 1) < 30))=true:=by rfl)
  (c8:(apos.endLine == aW.line)=true:=by rfl) (hs:starEach [e] X.env=(false,eval e X.env) :: starEach [] X.env:=by rfl) (dP:(backTo aW (starEach [] X.env)).any (·.1)=false:=by rfl) :
  VP X Z (.Call (.Attribute o "join" apos) [e] [] aW) (Vg fo g):=.mk fun tm =>
 PE.weak (rD PySem.F.plainAttrs_str PySem.F.slot_str_join PySem.F.type_str_join JC (ho tm) (he tm) c7 la c8 hs dP) fun σ H Q ⟨ρ,O,q,I,hf,k⟩ =>
  ⟨ρ,O,_,I,hf,fun x hx v H1 s1 a1=>by
    split at hx
    · rename_i z
      have ev:=a1.str
      subst ev
      refine ⟨rfl,ρ,O,_,I.same s1,hx,fun y hy w H2 s2 a2=>?_⟩
      obtain ⟨ys,rfl,hl,hq⟩:=hy
      obtain ⟨u,rfl,a3⟩:=cS a2
      obtain ⟨p,vs,rfl,h1,h2⟩:=a3.lst
      have ev:=wj h2
      subst ev
      exact ⟨z,p,ys,rfl,rfl,h1,hl,k _ hq _ H2 (s1.trans s2) ⟨(I.same s1).same s2,cP⟩⟩
    · exact hx.elim⟩
end
inductive S where
 | lf (t:T)
 | lst (xs:List S)
 | dk (ks:List Key) (ts:List T)
 | ins (C:Addr) (ns:List Str) (xs:List S)
mutual
def S.t:S→T
 | .lf t=>t
 | .lst xs=>.lst (S.ts xs)
 | .dk ks ts=>.dk ks ts
 | .ins C ns xs=>.ins C ns (S.ts xs)
def S.ts:List S→List T
 | []=>[]
 | x :: xs=>S.t x :: S.ts xs
end
mutual
def cj (K:KFr) (H:Hp) (A:List Addr):S→V→List Addr→Prop
 | .lf t,v,fp=>fp=[]∧At K H A t v
 | .lst xs,v,fp=>∃ a vs gH,v = .ref a∧H a=some (.lst vs)∧fp=a :: gH∧aZ K H A xs vs gH
 | .dk ks ts,v,fp=>∃ a vs,v = .ref a∧fp=[a]∧ks.length=vs.length∧H a=some (.dK (ks.zip vs))∧az K H A ts vs
 | .ins C ns xs,v,fp=>∃ a dx vs gH,v = .ref a∧ns.length=vs.length∧H a=some (.ins C dx (ns.zip vs))∧fp=a :: gH∧aZ K H A xs vs gH
def aZ (K:KFr) (H:Hp) (A:List Addr):List S→List V→List Addr→Prop
 | [],vs,fp=>vs=[]∧fp=[]
 | x :: xs,vs,fp=>∃ v r f g,vs=v :: r∧fp=f ++ g∧cj K H A x v f∧aZ K H A xs r g
end
section
variable {K:KFr} {H H':Hp} {A A':List Addr}
mutual
theorem cj.map (ha:∀ t v,At K H A t v→At K H' A' t v):∀ {s:S} {v:V} {fp:List Addr},(∀ b∈fp,H' b=H b)→cj K H A s v fp→cj K H' A' s v fp
 | .lf t,v,fp,hn,h=>by simp only [cj] at h ⊢; exact ⟨h.1,ha _ _ h.2⟩
 | .lst xs,v,fp,hn,h=>by
   simp only [cj] at h ⊢
   obtain ⟨a,vs,gH,rfl,e,rfl,q⟩:=h
   exact ⟨a,vs,gH,rfl,(hn a c6).trans e,rfl,aZ.map ha (fun b hb=>hn b (eB _ hb)) q⟩
 | .dk ks ts,v,fp,hn,h=>by
   simp only [cj] at h ⊢
   obtain ⟨a,vs,rfl,rfl,l,e,q⟩:=h
   exact ⟨a,vs,rfl,rfl,l,(hn a c6).trans e,az.iff.mpr (Paired.qj (az.iff.mp q) fun _ _ z=>ha _ _ z)⟩
 | .ins C ns xs,v,fp,hn,h=>by
   simp only [cj] at h ⊢
   obtain ⟨a,dx,vs,gH,rfl,l,e,rfl,q⟩:=h
   exact ⟨a,dx,vs,gH,rfl,l,(hn a c6).trans e,rfl,aZ.map ha (fun b hb=>hn b (eB _ hb)) q⟩
theorem aZ.map (ha:∀ t v,At K H A t v→At K H' A' t v):∀ {xs:List S} {vs:List V} {fp:List Addr},(∀ b∈fp,H' b=H b)→aZ K H A xs vs fp→aZ K H' A' xs vs fp
 | [],vs,fp,hn,h=>by simpa only [aZ] using h
 | x :: xs,vs,fp,hn,h=>by
   simp only [aZ] at h ⊢
   obtain ⟨v,r,f,g,rfl,rfl,h1,h2⟩:=h
   exact ⟨v,r,f,g,rfl,rfl,cj.map ha (fun b hb=>hn b (cq _ hb)) h1,aZ.map ha (fun b hb=>hn b (bO _ hb)) h2⟩
end
mutual
theorem cj.mut:∀ {s:S} {v:V} {fp:List Addr},cj K H A s v fp→∀ b∈fp,∃ u,H b=some u∧jK u=true
 | .lf t,v,fp,h,b,hb=>by simp only [cj] at h; rw [h.1] at hb; cases hb
 | .lst xs,v,fp,h,b,hb=>by
   simp only [cj] at h
   obtain ⟨a,vs,gH,rfl,e,rfl,q⟩:=h
   rcases cY.mp hb with z | z
   · rw [z]; exact ⟨_,e,rfl⟩
   · exact aZ.mut q b z
 | .dk ks ts,v,fp,h,b,hb=>by
   simp only [cj] at h
   obtain ⟨a,vs,rfl,rfl,l,e,q⟩:=h
   rw [kZ.mp hb]; exact ⟨_,e,rfl⟩
 | .ins C ns xs,v,fp,h,b,hb=>by
   simp only [cj] at h
   obtain ⟨a,dx,vs,gH,rfl,l,e,rfl,q⟩:=h
   rcases cY.mp hb with z | z
   · rw [z]; exact ⟨_,e,rfl⟩
   · exact aZ.mut q b z
theorem aZ.mut:∀ {xs:List S} {vs:List V} {fp:List Addr},aZ K H A xs vs fp→∀ b∈fp,∃ u,H b=some u∧jK u=true
 | [],vs,fp,h,b,hb=>by simp only [aZ] at h; rw [h.2] at hb; cases hb
 | x :: xs,vs,fp,h,b,hb=>by
   simp only [aZ] at h
   obtain ⟨v,r,f,g,rfl,rfl,h1,h2⟩:=h
   rcases cA.mp hb with z | z
   · exact cj.mut h1 b z
   · exact aZ.mut h2 b z
end
theorem cj.same {s:S} {v:V} {fp:List Addr} (sm:aN H H') (h:cj K H A s v fp):cj K H' A s v fp :=
 h.map (fun _ _ q=>q.same sm) fun b hb=>by obtain ⟨u,e,_⟩:=h.mut b hb; rw [e]; exact sm _ _ e
theorem cj.more {s:S} {v:V} {fp:List Addr} (m:∀ a∈A',a∈A∨H a=none) (h:cj K H A s v fp):cj K H A' s v fp:=h.map (fun _ _ q=>q.more m) fun _ _=>rfl
theorem cj.aX {s:S} {v:V} {fp:List Addr} (m:∀ a∈A',a∈A) (h:cj K H A s v fp):cj K H A' s v fp:=h.map (fun _ _ q=>q.aX m) fun _ _=>rfl
mutual
theorem cj.view:∀ {s:S} {v:V} {fp:List Addr},(∀ b∈A',b∈A)→(∀ b∈fp,b∉A')→cj K H A s v fp→At K H A' s.t v
 | .lf t,v,fp,hs,hn,h=>by simp only [cj,S.t] at h ⊢; exact h.2.aX hs
 | .lst xs,v,fp,hs,hn,h=>by
   simp only [cj,S.t,At] at h ⊢
   obtain ⟨a,vs,gH,rfl,e,rfl,q⟩:=h
   exact ⟨a,vs,rfl,.inl ⟨.inl e,hn a c6⟩,aZ.view hs (fun b hb=>hn b (eB _ hb)) q⟩
 | .dk ks ts,v,fp,hs,hn,h=>by
   simp only [cj,S.t,At] at h ⊢
   obtain ⟨a,vs,rfl,rfl,l,e,q⟩:=h
   exact ⟨a,vs,rfl,l,⟨e,hn a c6⟩,q.aX hs⟩
 | .ins C ns xs,v,fp,hs,hn,h=>by
   simp only [cj,S.t,At] at h ⊢
   obtain ⟨a,dx,vs,gH,rfl,l,e,rfl,q⟩:=h
   exact ⟨a,dx,vs,rfl,l,⟨e,hn a c6⟩,aZ.view hs (fun b hb=>hn b (eB _ hb)) q⟩
theorem aZ.view:∀ {xs:List S} {vs:List V} {fp:List Addr},(∀ b∈A',b∈A)→(∀ b∈fp,b∉A')→aZ K H A xs vs fp→az K H A' (S.ts xs) vs
 | [],vs,fp,hs,hn,h=>by simp only [aZ,S.ts,az] at h ⊢; exact h.1
 | x :: xs,vs,fp,hs,hn,h=>by
   simp only [aZ,S.ts,az] at h ⊢
   obtain ⟨v,r,f,g,rfl,rfl,h1,h2⟩:=h
   exact ⟨v,r,rfl,cj.view hs (fun b hb=>hn b (cq _ hb)) h1,aZ.view hs (fun b hb=>hn b (bO _ hb)) h2⟩
end
end
inductive kr where
 | fld (C:Addr) (f:Str)
 | last
def jP (f:Str):List Str→Option Nat
 | []=>none
 | n :: ns=>match f == n with
   | true=>some 0
   | false=>(jP f ns).map (· + 1)
def S.Yi:S→kr→Option Nat
 | .ins C ns xs,.fld C' f=>if C'=C then jP f ns else none
 | .lst xs,.last=>if 0 < xs.length then some (xs.length - 1) else none
 | _,_=>none
def S.kids:S→List S
 | .lst xs=>xs
 | .ins _ _ xs=>xs
 | _=>[]
def S.with:S→List S→S
 | .lst _,ys=>.lst ys
 | .ins C ns _,ys=>.ins C ns ys
 | s,_=>s
def S.get:S→List kr→Option S
 | s,[]=>some s
 | s,p :: ps=>match s.Yi p with
   | some i=>match s.kids[i]? with
     | some x=>x.get ps
     | none=>none
   | none=>none
def S.put:S→List kr→S→S
 | _,[],y=>y
 | s,p :: ps,y=>match s.Yi p with
   | some i=>match s.kids[i]? with
     | some x=>s.with (s.kids.set i (x.put ps y))
     | none=>s
   | none=>s
def fF (H:Hp) (v:V) (p:kr):Option V:=match v with
 | .ref a=>match H a with
   | some (.ins C _ fs)=>match p with
     | .fld C' f=>if C'=C then fs.lookup f else none
     | .last=>none
   | some (.lst vs)=>match p with
     | .last=>vs.getLast?
     | _=>none
   | _=>none
 | _=>none
def valAt (H:Hp):V→List kr→Option V
 | v,[]=>some v
 | v,p :: ps=>(fF H v p).bind fun w=>valAt H w ps
theorem lJ (H:Hp) (p:kr):∀ (ps:List kr) (v:V),valAt H v (ps ++ [p])=(valAt H v ps).bind fun w=>fF H w p
 | [],v=>by
   show (fF H v p).bind (fun w=>some w)=(some v).bind fun w=>fF H w p
   simp
 | q :: ps,v=>by
   show (fF H v q).bind (fun w=>valAt H w (ps ++ [p]))=((fF H v q).bind fun w=>valAt H w ps).bind fun w=>fF H w p
   cases fF H v q with
   | none=>rfl
   | some w=>exact lJ H p ps w
theorem lK (f:Str):∀ (ns:List Str) (vs:List V) {i:Nat},jP f ns=some i→(ns.zip vs).lookup f=vs[i]?
 | [],vs,i,h=>by cases h
 | n :: ns,[],i,h=>by simp
 | n :: ns,v :: vs,i,h=>by
   rw [Mx,IB]
   unfold jP at h
   cases q:f == n with
   | true=>rw [q] at h; cases h; rfl
   | false =>
     rw [q] at h
     dsimp only at h
     cases e:jP f ns with
     | none=>rw [e] at h; cases h
     | some j =>
       rw [e] at h
       cases h
       exact lK f ns vs e
section
variable {K:KFr} {H:Hp} {A:List Addr}
theorem aZ.length:∀ {xs:List S} {vs:List V} {fp:List Addr},aZ K H A xs vs fp→vs.length=xs.length
 | [],vs,fp,h=>by simp only [aZ] at h; rw [h.1]; rfl
 | x :: xs,vs,fp,h=>by
   simp only [aZ] at h
   obtain ⟨v,r,f,g,rfl,rfl,h1,h2⟩:=h
   simp [aZ.length h2]
theorem aZ.focus:∀ {xs:List S} {vs:List V} {fp:List Addr} {i:Nat} {x:S},aZ K H A xs vs fp→xs[i]?=some x→∃ v f1 f f2,vs[i]?=some v∧fp=f1 ++ (f ++ f2)∧cj K H A x v f ∧
  ∀ {H':Hp} {A':List Addr} {y:S} {g:List Addr},(∀ t v,At K H A t v→At K H' A' t v)→(∀ b∈f1 ++ f2,H' b=H b)→cj K H' A' y v g→aZ K H' A' (xs.set i y) vs (f1 ++ (g ++ f2))
 | [],vs,fp,i,x,h,e=>by simp at e
 | x0 :: xs,vs,fp,0,x,h,e=>by
   simp only [YK,Option.some.injEq] at e
   subst e
   simp only [aZ] at h
   obtain ⟨v,r,f,g,rfl,rfl,h1,h2⟩:=h
   refine ⟨v,[],f,g,rfl,rfl,h1,fun ha hn hy=>?_⟩
   simp only [Mw,aZ]
   exact ⟨v,r,_,g,rfl,rfl,hy,aZ.map ha (fun b hb=>hn b (by simpa using hb)) h2⟩
 | x0 :: xs,vs,fp,i+1,x,h,e=>by
   simp only [List.getElem?_cons_succ] at e
   simp only [aZ] at h
   obtain ⟨v,r,f,g,rfl,rfl,h1,h2⟩:=h
   obtain ⟨w,f1,f',f2,e1,rfl,h3,k⟩:=aZ.focus h2 e
   refine ⟨w,f ++ f1,f',f2,by simpa using e1,by rw [XN],h3,fun ha hn hy=>?_⟩
   simp only [DV,aZ]
   exact ⟨v,r,f,_,rfl,by rw [XN],cj.map ha (fun b hb=>hn b (by simp [hb])) h1,k ha (fun b hb=>hn b (by
    rcases cA.mp hb with z | z
    · simp [z]
    · simp [z])) hy⟩
theorem cj.focus:∀ {ps:List kr} {s x:S} {v:V} {fp:List Addr},cj K H A s v fp→s.get ps=some x→∃ w f1 f f2,fp=f1 ++ (f ++ f2)∧valAt H v ps=some w∧cj K H A x w f ∧
  ∀ {H':Hp} {A':List Addr} {y:S} {g:List Addr},(∀ t v,At K H A t v→At K H' A' t v)→(∀ b∈f1 ++ f2,H' b=H b)→cj K H' A' y w g→cj K H' A' (s.put ps y) v (f1 ++ (g ++ f2))
 | [],s,x,v,fp,h,e=>by
   cases e
   exact ⟨v,[],fp,[],by simp,rfl,h,fun _ _ hy=>by simpa [S.put] using hy⟩
 | p :: ps,s,x,v,fp,h,e=>by
   unfold S.get at e
   cases hk:s.Yi p with
   | none=>rw [hk] at e; cases e
   | some i =>
     rw [hk] at e
     dsimp only at e
     cases hx:s.kids[i]? with
     | none=>rw [hx] at e; cases e
     | some x0 =>
       rw [hx] at e
       dsimp only at e
       match s,h with
       | .lf t,h=>cases p <;> cases hk
       | .dk ks ts,h=>cases p <;> cases hk
       | .lst xs,h =>
         simp only [cj] at h
         obtain ⟨a,vs,gH,rfl,ea,rfl,q⟩:=h
         obtain ⟨v1,f1,f,f2,hv,rfl,h1,k1⟩:=aZ.focus q hx
         obtain ⟨w,g1,g,g2,rfl,ev,h2,k2⟩:=cj.focus h1 e
         have e1:fF H (.ref a) p=some v1:=by
          cases p with
          | fld C f=>cases hk
          | last =>
            have A3:(if 0 < xs.length then some (xs.length - 1) else none)=some i:=hk
            split at A3
            · cases A3
              unfold fF
              dsimp only
              rw [ea]
              dsimp only
              rw [Sx,q.length]; exact hv
            · cases A3
         refine ⟨w,a :: (f1 ++ g1),g,g2 ++ f2,by simp,by show (fF H (.ref a) p).bind _=_; rw [e1]; exact ev,h2,fun {H' A' y g'} ha hn hy=>?_⟩
         unfold S.put
         rw [hk]
         dsimp only
         rw [hx]
         dsimp only
         have h3:=k1 ha (fun b hb=>hn b (by rcases cA.mp hb with z | z <;> simp [z])) (k2 ha (fun b hb=>hn b (by rcases cA.mp hb with z | z <;> simp [z])) hy)
         simp only [S.with,S.kids,cj]
         exact ⟨a,vs,_,rfl,(hn a (by simp)).trans ea,by simp,h3⟩
       | .ins C ns xs,h =>
         simp only [cj] at h
         obtain ⟨a,dx,vs,gH,rfl,l,ea,rfl,q⟩:=h
         obtain ⟨v1,f1,f,f2,hv,rfl,h1,k1⟩:=aZ.focus q hx
         obtain ⟨w,g1,g,g2,rfl,ev,h2,k2⟩:=cj.focus h1 e
         have e1:fF H (.ref a) p=some v1:=by
          cases p with
          | last=>cases hk
          | fld C' f =>
            have A3:(if C'=C then jP f ns else none)=some i:=hk
            split at A3
            · rename_i hC
              unfold fF
              dsimp only
              rw [ea]
              dsimp only
              rw [if_pos hC,lK f ns vs A3]; exact hv
            · cases A3
         refine ⟨w,a :: (f1 ++ g1),g,g2 ++ f2,by simp,by show (fF H (.ref a) p).bind _=_; rw [e1]; exact ev,h2,fun {H' A' y g'} ha hn hy=>?_⟩
         unfold S.put
         rw [hk]
         dsimp only
         rw [hx]
         dsimp only
         have h3:=k1 ha (fun b hb=>hn b (by rcases cA.mp hb with z | z <;> simp [z])) (k2 ha (fun b hb=>hn b (by rcases cA.mp hb with z | z <;> simp [z])) hy)
         simp only [S.with,S.kids,cj]
         exact ⟨a,dx,vs,_,rfl,l,(hn a (by simp)).trans ea,by simp,h3⟩
end
structure Mz where
 H0:Hp
 rH:List Addr
 Ox:List Addr
 a:Addr
 k:Nat
def iC (H:Hp) (L:List Addr):Hp:=fun b=>if b∈L then none else H b
theorem wm {H:Hp} {L:List Addr} {b:Addr} {o:HO} (h:iC H L b=some o):H b=some o∧b∉L:=by
 unfold iC at h
 split at h
 · cases h
 · rename_i n; exact ⟨h,n⟩
theorem ku {H:Hp} {L:List Addr} {b:Addr} (h:iC H L b=none):b∈L∨H b=none:=by
 unfold iC at h
 split at h
 · rename_i n; exact .inl n
 · exact .inr h
theorem FT {H:Hp} {L:List Addr} {b:Addr} (h:b∈L):iC H L b=none:=by unfold iC; rw [if_pos h]
theorem tW {H:Hp} {L:List Addr} {b:Addr} (h:b∉L):iC H L b=H b:=by unfold iC; rw [if_neg h]
structure Mf (K:KFr) (M:Mz) (O:List (Option Addr)) (fp:List Addr) (s:S) (H:Hp):Prop where
 nh:cj K H (roots O ++ (fp ++ M.Ox)) s (.ref M.a) fp
 nd:fp.Nodup
 lL:∀ b∈fp,b∉roots O∧b∉M.Ox
 fr:∀ b∈fp,b∈M.rH∨M.H0 b=none
 kp:∀ b o,M.H0 b=some o→b∉M.rH→H b=some o∧b∉roots O
abbrev zf (M:Mz) (O:List (Option Addr)) (H:Hp):Zc:=⟨iC H (roots O),[],M.Ox⟩
section
variable {K:KFr} {M:Mz} {O Of:List (Option Addr)} {fp:List Addr} {s:S} {ρ:En} {σ:St} {H Hf:Hp} {tm:List (T×V)}
theorem Mf.now (F:Mf K M Of fp s Hf) (I:ax K (zf M Of Hf) tm O ρ σ H) (hr:∀ b∈roots Of,∃ u,Hf b=some u∧jK u=true):Mf K M O fp s H:=by
 have old:∀ b∈roots O,b∈roots Of∨Hf b=none:=fun b hb=>by
  rcases (I.own b hb).1 with z | z
  · cases z
  · exact ku z
 have kept:∀ b o,Hf b=some o→b∉roots Of→H b=some o:=fun b o e n=>I.keep b o (by show iC Hf (roots Of) b=some o; rw [tW n]; exact e) (by show b∉[]; simp)
 have gH:∀ b∈fp,∃ u,Hf b=some u∧jK u=true:=F.nh.mut
 refine ⟨?_,F.nd,fun b hb=>⟨fun z=>?_,(F.lL b hb).2⟩,F.fr,fun b o e n=>?_⟩
 · refine cj.map (fun t v q=>?_) (fun b hb=>?_) F.nh
   · have q1:At K Hf (roots Of ++ (roots O ++ (fp ++ M.Ox))) t v:=q.more fun a ha=>by
      rcases cA.mp ha with z | z
      · exact .inl (cq _ z)
      · rcases cA.mp z with z | z
        · rcases old a z with y | y
          · exact .inl (cq _ y)
          · exact .inr y
        · exact .inl (bO _ z)
     have q2:At K H (roots Of ++ (roots O ++ (fp ++ M.Ox))) t v:=q1.sX (as:=roots Of) kept (fun a ha=>cq _ ha) hr
     exact q2.aX fun a ha=>bO _ ha
   · obtain ⟨u,e,_⟩:=gH b hb
     rw [e]; exact kept b u e (F.lL b hb).1
 · rcases old b z with y | y
   · exact (F.lL b hb).1 y
   · obtain ⟨u,e,_⟩:=gH b hb; rw [e] at y; cases y
 · obtain ⟨h1,h2⟩:=F.kp b o e n
   refine ⟨kept b o h1 h2,fun z=>?_⟩
   rcases old b z with y | y
   · exact h2 y
   · rw [h1] at y; cases y
theorem ax.rebase {Z:Zc} (I:ax K Z tm O ρ σ H) (hZ:Z.P=[]):ax K ⟨iC H (roots O),[],Z.Ox⟩ tm O ρ σ H :=
 ⟨I.lσ,I.lO,I.sl,I.nd,fun a h=>⟨.inr (FT h),(I.own a h).2⟩,fun p hp=>(nomatch hp),I.ox,fun b o e _=>(wm e).1,I.m6⟩
structure kx (K:KFr) (M:Mz) (ρ:En) (s:S) (σ:St) (H:Hp):Prop where
 ex:∃ O fp,Mf K M O fp s H∧ax K (zf M O H) [] O ρ σ H
 pin:ρ[M.k]?=some (some (.pin M.a s.t,false))
theorem kx.of (F:Mf K M Of fp s Hf) (hr:∀ b∈roots Of,∃ u,Hf b=some u∧jK u=true) (I:ax K (zf M Of Hf) [] O ρ σ H) (hp:ρ[M.k]?=some (some (.pin M.a s.t,false))):kx K M ρ s σ H :=
 ⟨⟨O,fp,F.now I hr,I.rebase (Z:=zf M Of Hf) rfl⟩,hp⟩
theorem bJ (I:ax K (zf M O H) tm O ρ σ H):∀ b∈roots O,∃ u,H b=some u∧jK u=true:=fun b hb=>(I.own b hb).2.2
def wo:Option (T×Bool)→Option (T×Bool)
 | some (t,false)=>if bU t=true then some (t,false) else none
 | e=>e
def eX:Option (T×Bool)→Prop
 | some (.lst ts,true)=>eR ts=true
 | some (.dk _ ts,true)=>eR ts=true
 | some (_,true)=>False
 | _=>True
def nk (M:Mz) (ρ:En) (s:S):En:=(ρ.map wo).set M.k (some (.pin M.a s.t,false))
theorem cC.bU {A A':List Addr} {a:Addr} {t:T} (hi:eX (some (t,true))) (h:cC K H A a t) {H':Hp} (e:H' a=H a) (hm:∀ t v,bU t=true→At K H A t v→At K H' A' t v):cC K H' A' a t:=by
 have ml:∀ {ts:List T} {vs:List V},eR ts=true→az K H A ts vs→az K H' A' ts vs:=by
  intro ts
  induction ts with
  | nil=>intro vs _ q; simpa only [az] using q
  | cons t ts ih =>
    intro vs hi q
    simp only [eR,my] at hi
    simp only [az] at q ⊢
    obtain ⟨v,r,rfl,q1,q2⟩:=q
    exact ⟨v,r,rfl,hm _ _ hi.1 q1,ih hi.2 q2⟩
 cases t with
 | lst ts=>obtain ⟨vs,e1,q⟩:=h; exact ⟨vs,e.trans e1,ml hi q⟩
 | dk ks ts=>obtain ⟨vs,l,e1,q⟩:=h; exact ⟨vs,l,e.trans e1,ml hi q⟩
 | _=>exact False.elim hi
theorem Mf.write {fp':List Addr} {s':S} {H':Hp} (F:Mf K M O fp s H) (I:ax K (zf M O H) [] O ρ σ H) (oX:∀ e∈ρ,eX e) (hk:ρ[M.k]?≠none) (ho:O[M.k]?=some none) (hσ:σ[M.k]?=some (some (.ref M.a)))
  (fr:∀ b o,H b=some o→b∉fp→H' b=some o) (hS:cj K H' (roots O ++ (fp' ++ M.Ox)) s' (.ref M.a) fp') (nd:fp'.Nodup) (lL:∀ b∈fp',b∉roots O∧b∉M.Ox) (hfr:∀ b∈fp',b∈M.rH∨M.H0 b=none):kx K M (nk M ρ s') s' σ H':=by
 have kept:∀ b∈roots O,H' b=H b:=fun b hb=>by
  obtain ⟨u,e,_⟩:=bJ I b hb
  rw [e]; exact fr _ _ e fun z=>(F.lL b z).1 hb
 have tr:∀ t v,bU t=true→At K H (av (zf M O H) O) t v→At K H' (roots O ++ M.Ox) t v:=fun t v hi q=>by
  have q1:At K H fp t v:=At.bU hi q
  exact At.bU hi (q1.sX (as:=fp) fr (fun a h=>h) F.nh.mut)
 have acn:M.k < ρ.length:=by
  cases h:ρ[M.k]? with
  | none=>exact absurd h hk
  | some e=>exact (fG.mp h).1
 refine ⟨⟨O,fp',⟨hS,nd,lL,hfr,fun b o e n=>?_⟩,⟨?_,?_,fun j e h=>?_,I.nd,fun b hb=>⟨.inr (FT hb),(I.own b hb).2.1,?_⟩,fun p hp=>(nomatch hp),fun b hb=>?_,fun b o e _=>(wm e).1,fun p hp=>(nomatch hp)⟩⟩,?_⟩
 · obtain ⟨h1,h2⟩:=F.kp b o e n
   refine ⟨fr _ _ h1 fun z=>?_,h2⟩
   rcases F.fr b z with y | y
   · exact n y
   · rw [e] at y; cases y
 · unfold nk; rw [ID,cU]; exact I.lσ
 · unfold nk; rw [ID,cU]; exact I.lO
 · unfold nk at h
   rcases get_set h with ⟨rfl,rfl,hl⟩ | ⟨ne,h⟩
   · refine ⟨none,_,ho,hσ,rfl,.ref M.a,rfl,?_⟩
     simp only [At]
     refine ⟨trivial,hS.view (fun b hb=>?_) (fun b hb z=>?_)⟩
     · rcases cA.mp hb with z | z
       · exact cq _ z
       · exact bO _ (bO _ z)
     · rcases cA.mp z with z | z
       · exact (lL b hb).1 z
       · exact (lL b hb).2 z
   · rw [List.getElem?_map] at h
     cases h0:ρ[j]? with
     | none=>rw [h0] at h; cases h
     | some e0 =>
       rw [h0] at h
       have he:wo e0=e:=Option.some.inj h
       obtain ⟨o,w,h1,h2,h3⟩:=I.sl j e0 h0
       refine ⟨o,w,h1,h2,?_⟩
       subst he
       match e0,h3,h0 with
       | none,h3,_=>exact h3
       | some (t,false),h3,_ =>
         obtain ⟨rfl,v,rfl,q⟩:=h3
         show lb K H' (av (zf M O H') O) (if bU t=true then some (t,false) else none) none (some v)
         by_cases hi:bU t=true
         · rw [if_pos hi]; exact ⟨rfl,v,rfl,tr t v hi q⟩
         · rw [if_neg hi]; rfl
       | some (t,true),h3,h0 =>
         obtain ⟨c,rfl,rfl,q⟩:=h3
         exact ⟨c,rfl,rfl,q.bU (oX _ (ik h0)) (kept c (aK.mpr (ik h1))) tr⟩
 · obtain ⟨u,e,m⟩:=(I.own b hb).2.2
   exact ⟨u,(kept b hb).trans e,m⟩
 · cases e:H b with
   | none=>exact absurd e (I.ox b hb)
   | some u=>rw [fr _ _ e fun z=>(F.lL b z).2 hb]; simp
 · unfold nk; rw [Am (by rw [cU]; exact acn)]
end
structure NA where
 nx:En→S→Prop
 rt:En→S→Rt→Prop
 bk:En→S→Prop:=fun _ _=>False
 ct:En→S→Prop:=fun _ _=>False
structure Qh (K:KFr) (M:Mz) (d:NA) (D:Ends):Prop where
 nx:∀ ρ s σ H,kx K M ρ s σ H→d.nx ρ s→D.nx σ H
 rt:∀ ρ s σ H r v O fp Of Hf,Mf K M Of fp s Hf→(∀ b∈roots Of,∃ u,Hf b=some u∧jK u=true)→fD K (zf M Of Hf) [] O ρ σ H r v→d.rt ρ s r→D.rt v H
 bk:∀ ρ s σ H,kx K M ρ s σ H→d.bk ρ s→D.bk σ H
 ct:∀ ρ s σ H,kx K M ρ s σ H→d.ct ρ s→D.ct σ H
abbrev FM:=NA→En→S→Prop
def lM (X:Cx) (M:Mz) (g:FM):TS:=fun D σ H=>∃ ρ s d,kx X.K M ρ s σ H∧g d ρ s∧Qh X.K M d D
structure Bm (p:Prop):Prop where
 h:p
def MS (X:Cx) (M:Mz) (st:Stmt) (g:FM):Prop:=Bm (PS X st (lM X M g))
def FU (X:Cx) (M:Mz) (st:List Stmt) (g:FM):Prop:=Bm (gG X st (lM X M g))
section
variable {X:Cx} {M:Mz} {st:Stmt} {rest:List Stmt} {g u:FM} {pos:Pos}
def aco (g u:FM):FM:=fun d ρ s=>g { d with nx:=u d } ρ s
theorem cH (h1:MS X M st g) (h2:FU X M rest u):FU X M (st :: rest) (aco g u):=⟨gG.h_ (bR h1.h h2.h) fun D σ H ⟨ρ,s,d,I,h,F⟩ =>
 ⟨ρ,s,{ d with nx:=u d },I,h,⟨fun ρ' s' σ' H' I' h'=>⟨ρ',s',d,I',h',F⟩,F.rt,F.bk,F.ct⟩⟩⟩
theorem bZ (h1:MS X M st g):FU X M [st] g:=⟨i7 h1.h⟩
theorem FU.weak (h:FU X M rest g) (hw:∀ d ρ s,u d ρ s→g d ρ s):FU X M rest u:=⟨gG.h_ h.h fun D σ H ⟨ρ,s,d,I,q,F⟩=>⟨ρ,s,d,I,hw d ρ s q,F⟩⟩
def dPl (M:Mz) (d:NA) (s:S):EN:={ nx:=fun ρ'=>ρ'[M.k]?=some (some (.pin M.a s.t,false))∧d.nx ρ' s,rt:=fun ρ' r=>d.rt ρ' s r,bk:=fun ρ'=>ρ'[M.k]?=some (some (.pin M.a s.t,false))∧d.bk ρ' s,ct:=fun ρ'=>ρ'[M.k]?=some (some (.pin M.a s.t,false))∧d.ct ρ' s }
def mPl (M:Mz) (g:FS):FM:=fun d ρ s=>g (dPl M d s) ρ
theorem Qi {K:KFr} {O:List (Option Addr)} {fp:List Addr} {s:S} {ρ:En} {σ:St} {H:Hp} {d:NA} {D:Ends} (F:Mf K M O fp s H) (I:ax K (zf M O H) [] O ρ σ H) (Fi:Qh K M d D):Fin K (zf M O H) [] (dPl M d s) D :=
 ⟨fun O' ρ' σ' H' J ⟨h1,h2⟩=>Fi.nx _ _ _ _ (kx.of F (bJ I) J h1) h2,fun O' ρ' σ' H' r v z h=>Fi.rt _ _ _ _ r v _ _ _ _ F (bJ I) z h,fun O' ρ' σ' H' J ⟨h1,h2⟩=>Fi.bk _ _ _ _ (kx.of F (bJ I) J h1) h2,fun O' ρ' σ' H' J ⟨h1,h2⟩=>Fi.ct _ _ _ _ (kx.of F (bJ I) J h1) h2⟩
theorem eh {g:FS} (h:∀ H0,VS X ⟨H0,[],M.Ox⟩ st g):MS X M st (mPl M g):=⟨PS.h_ fun D σ H ⟨ρ,s,d,⟨⟨O,fp,F,I⟩,hp⟩,hg,Fi⟩=>⟨_,h (iC H (roots O)) [],ρ,O,_,I,hg,Qi F I Fi⟩⟩
 where PS.h_ {t:TS} (hw:∀ D σ H,t D σ H→∃ t':TS,PS X st t'∧t' D σ H):PS X st t:=fun pins s σ H D I q=>let ⟨t',h1,h2⟩:=hw D σ H q; h1 pins s σ H D I h2
def mIf (c:FB) (g u:FM):FM:=fun d ρ s=>c ρ fun b=>if b=true then g d ρ s else u d ρ s
theorem wq {c:Expr} {fc:FB} {a b:List Stmt} (hc:∀ H0,VC X ⟨H0,[],M.Ox⟩ c fc) (ha:FU X M a g) (hb:FU X M b u):MS X M (.If c a b pos) (mIf fc g u):=⟨fun pins s' σ H D J ⟨ρ,s,d,⟨⟨O,fp,F,I⟩,hp⟩,hg,Fi⟩ =>
 Eb (hc (iC H (roots O)) []) ha.h hb.h pins s' σ H D J ⟨ρ,O,_,I,hg,fun b hb H' sm=>by
  have St:kx X.K M ρ s σ H':=kx.of F (bJ I) (I.same sm) hp
  cases b with
  | true=>rw [if_pos rfl] at hb; exact Pg ⟨ρ,s,d,St,hb,Fi⟩
  | false=>rw [if_neg eC] at hb; exact Pf ⟨ρ,s,d,St,hb,Fi⟩⟩⟩
end
def jD (k:Nat) (ps:List kr):TE:=fun σ H Q=>∃ v w,σ[k]?=some (some v)∧valAt H v ps=some w∧Q w H
section
variable {X:Cx} {e i:Expr} {k:Nat} {ps:List kr} {C:Addr} {f:Str} {pos:Pos}
theorem oY {x:Str} (hN:X.N[k]?=some x:=by rfl) (hv:j5 X.env.scope x:=by first | exact Or.inl rfl | exact Or.inr (Or.inl rfl) | exact Or.inr (Or.inr rfl)) (hd:ic x:=by decide)
  (gn:va x:=by decide):PE X (.Name x pos) (jD k []):=PE.weak (bT hN hv hd gn) fun σ H Q ⟨v,w,h1,h2,q⟩=>by
 cases h2
 exact ⟨v,h1,q⟩
theorem lN (cl:yi X.K C) (na:a_ X.K C f) (he:PE X e (jD k ps)) (hb:attributeBase e f X.env (eval e X.env)=eval e X.env:=by rfl):PE X (.Attribute e f pos) (jD k (ps ++ [.fld C f])) :=
 PE.weak (yl he hb) fun σ H Q ⟨v,w,h1,h2,q⟩=>by
  rw [lJ] at h2
  cases e0:valAt H v ps with
  | none=>rw [e0] at h2; cases h2
  | some w0 =>
    rw [e0] at h2
    have h3:fF H w0 (.fld C f)=some w:=h2
    refine ⟨v,w0,h1,e0,?_⟩
    unfold fF at h3
    split at h3
    · rename_i a
      split at h3
      · rename_i C' dx fs ea
        dsimp only at h3
        split at h3
        · rename_i hC
          subst hC
          exact ⟨a,_,dx,fs,w,rfl,ea,cl,na,h3,q⟩
        · cases h3
      · dsimp only at h3; cases h3
      · cases h3
    · cases h3
theorem KC (he:PE X e (jD k ps)) (hi:PE X i (tC (.int (-1)))) (hs:nF i:=by intro _ _; rfl):PE X (.Subscript e i pos) (jD k (ps ++ [.last])) :=
 PE.weak (Er AA he hi hs) fun σ H Q ⟨v,w,h1,h2,q⟩=>by
  rw [lJ] at h2
  cases e0:valAt H v ps with
  | none=>rw [e0] at h2; cases h2
  | some w0 =>
    rw [e0] at h2
    have h3:fF H w0 .last=some w:=h2
    refine ⟨v,w0,h1,e0,?_⟩
    unfold fF at h3
    split at h3
    · rename_i a
      split at h3
      · dsimp only at h3; cases h3
      · rename_i vs ea
        dsimp only at h3
        refine ⟨a,vs,-1,w,rfl,rfl,fA.of ea,?_,q⟩
        have hl:0 < vs.length:=by cases vs <;> simp_all
        rw [Sx] at h3
        unfold kY uZ
        rw [if_neg (by decide),if_pos (by omega)]
        have e:(-1+(vs.length:Int)).toNat=vs.length - 1:=by omega
        rw [e]
        exact h3
      · cases h3
    · cases h3
end
theorem Vh {X:Cx} {j} {p p':Pos}:PE X (.UnaryOp .USub (.Constant (.int 1) j p) p') (tC (.int (-1))):=PE.weak (MO Eg yb) fun σ H Q h=>⟨_,rfl,h⟩
section
variable {K:KFr} {M:Mz} {O:List (Option Addr)} {fp:List Addr} {s:S} {ρ:En} {σ:St} {H:Hp} {A:List Addr}
theorem aZ.NB:∀ {xs:List S} {vs:List V} {fp:List Addr} {i:Nat} {t0 t:T} {v:V},aZ K H A xs vs fp→xs[i]?=some (.lf t0)→At K H A t v→aZ K H A (xs.set i (.lf t)) (vs.set i v) fp
 | [],vs,fp,i,t0,t,v,h,e,q=>by simp at e
 | x :: xs,vs,fp,0,t0,t,v,h,e,q=>by
   cases e
   simp only [aZ,cj] at h
   obtain ⟨v0,r,f,g,rfl,rfl,⟨rfl,_⟩,h2⟩:=h
   simp only [Mw,aZ,cj]
   exact ⟨v,r,[],g,rfl,rfl,⟨rfl,q⟩,h2⟩
 | x :: xs,vs,fp,i+1,t0,t,v,h,e,q=>by
   simp only [aZ] at h
   obtain ⟨v0,r,f,g,rfl,rfl,h1,h2⟩:=h
   simp only [DV,aZ]
   exact ⟨v0,r.set i v,f,g,rfl,rfl,h1,h2.NB (by simpa using e) q⟩
theorem A4 (f:Str) (y:V):∀ (ns:List Str) (vs:List V) {i:Nat},ns.length=vs.length→jP f ns=some i→dv f y (ns.zip vs)=ns.zip (vs.set i y)
 | [],vs,i,_,h=>by cases h
 | n :: ns,[],i,l,h=>by simp at l
 | n :: ns,v :: vs,i,l,h=>by
   rw [Mx]
   show (if n=f then (n,y) :: ns.zip vs else (n,v) :: dv f y (ns.zip vs))=_
   unfold jP at h
   cases q:f == n with
   | true =>
     rw [q] at h
     cases h
     rw [if_pos (eq_of_beq q).symm]; rfl
   | false =>
     rw [q] at h
     have ne:¬ n=f:=fun e=>by rw [e] at q; simp at q
     rw [if_neg ne]
     cases z:jP f ns with
     | none=>rw [z] at h; cases h
     | some j =>
       rw [z] at h
       cases h
       rw [A4 f y ns vs (by simpa using l) z]; rfl
theorem cJ (I:ax K (zf M O H) [] O ρ σ H) (hp:ρ[M.k]?=some (some (.pin M.a s.t,false))):O[M.k]?=some none∧σ[M.k]?=some (some (.ref M.a)):=by
 obtain ⟨o,sv,h1,h2,h3⟩:=I.sl M.k _ hp
 obtain ⟨rfl,v,rfl,q⟩:=h3
 simp only [At] at q
 obtain ⟨rfl,_⟩:=q
 exact ⟨h1,h2⟩
theorem Mf.put {ps:List kr} {x:S} (F:Mf K M O fp s H) (I:ax K (zf M O H) [] O ρ σ H) (hp:ρ[M.k]?=some (some (.pin M.a s.t,false))) (oX:∀ e∈ρ,eX e) (hg:s.get ps=some x) :
  ∃ w f,valAt H (.ref M.a) ps=some w∧cj K H (roots O ++ (fp ++ M.Ox)) x w f∧(∀ b∈f,b∈fp)∧f.Nodup ∧
   ∀ {b:Addr} {u:HO} {y:S},b∈f→cj K (upd H b u) (roots O ++ (fp ++ M.Ox)) y w f→kx K M (nk M ρ (s.put ps y)) (s.put ps y) σ (upd H b u):=by
 obtain ⟨w,f1,f,f2,yP,ev,hs,back⟩:=F.nh.focus hg
 have sub:∀ b∈f,b∈fp:=fun b hb=>by rw [yP]; exact bO _ (cq _ hb)
 have nd:=F.nd
 have KD:=nd
 rw [yP] at KD
 have ndf:f.Nodup:=((x8.mp KD).2.1 |> x8.mp).1
 refine ⟨w,f,ev,hs,sub,ndf,fun {b u y} hb hy=>?_⟩
 obtain ⟨ho,hσ⟩:=cJ I hp
 obtain ⟨u0,e0,m0⟩:=F.nh.mut b (sub b hb)
 have hA:b∈roots O ++ (fp ++ M.Ox):=bO _ (cq _ (sub b hb))
 refine F.write I oX (by rw [hp]; simp) ho hσ (fun b' o e n=>?_) (fp':=fp) ?_ nd F.lL F.fr
 · rw [aA (fun z=>n (by rw [z]; exact sub b hb))]; exact e
 · have r:=back (H':=upd H b u) (A':=roots O ++ (fp ++ M.Ox)) (fun t v q=>q.wrote hA e0 m0) (fun b' KG=>?_) hy
   · rw [← yP] at r; exact r
   · refine aA fun z=>?_
     subst z
     have n1:=x8.mp KD
     have n2:=x8.mp n1.2.1
     rcases cA.mp KG with q | q
     · exact n1.2.2 _ q _ (cq _ hb) rfl
     · exact n2.2.2 _ hb _ q rfl
end
section
variable {X:Cx} {M:Mz} {e:Expr} {C:Addr} {f:Str} {pos:Pos}
def acp (M:Mz) (C:Addr) (f:Str) (fe:FE):FM:=fun d ρ s=>fe ρ fun t=>bU t=true∧(∀ e∈ρ,eX e)∧∃ ns xs i t0,s = .ins C ns xs∧xs.length < 1000∧jP f ns=some i∧xs[i]?=some (.lf t0)∧d.nx (nk M ρ (.ins C ns (xs.set i (.lf t)))) (.ins C ns (xs.set i (.lf t)))
theorem iD {x:Str} {p fB:Pos} {fe:FE} (cl:yi X.K C) (na:a_ X.K C f) (he:∀ H0,VE X ⟨H0,[],M.Ox⟩ e fe)
  (hN:X.N[M.k]?=some x) (hv:j5 X.env.scope x:=by first | exact Or.inl rfl | exact Or.inr (Or.inl rfl) | exact Or.inr (Or.inr rfl)) (hd:ic x:=by decide)
  (gn:va x:=by decide) (hs:swapsWith e (some (.Attribute (.Name x p) f fB)) pos.line X.env=pure false:=by rfl) :
  MS X M (.Assign [.Attribute (.Name x p) f fB] e pos) (acp M C f fe):=⟨fun pins s' σ H D J ⟨ρ,s,d,⟨⟨O,fp,F,I⟩,hp⟩,hg,Fi⟩=>by
 refine eQ (bT hN hv hd gn) (he (iC H (roots O)) []) hs pins s' σ H D J ⟨ρ,O,_,I,hg,fun t ht v H1 sm a=>?_⟩
 obtain ⟨hi,oX,ns,xs,i,t0,rfl,hlen,hix,hx,hq⟩:=ht
 have I0:=I.same sm
 have F1:=F.now I0 (bJ I)
 have I1:=I0.rebase (Z:=zf M O H) rfl
 obtain ⟨w,f',ev,hS,sub,nd,wr⟩:=F1.put (ps:=[]) I1 hp oX rfl
 cases ev
 have A5:=hS
 simp only [cj] at A5
 obtain ⟨a',dx,vs,gH,ea,hl,ha,rfl,hL⟩:=A5
 cases ea
 obtain ⟨_,hσ⟩:=cJ I1 hp
 refine ⟨.ref M.a,hσ,M.a,C,dx,_,rfl,ha,cl,na,?_,?_⟩
 · rw [Oo,hl,MH,hL.length]; exact hlen
 · rw [A4 f v ns vs hl hix]
   have hA:M.a∈roots O ++ (fp ++ M.Ox):=bO _ (cq _ (sub _ c6))
   refine Fi.nx _ _ σ _ (wr (y:=.ins C ns (xs.set i (.lf t))) c6 ?_) hq
   simp only [cj]
   refine ⟨M.a,dx,vs.set i v,gH,rfl,by rw [ID]; exact hl,aI,rfl,?_⟩
   refine (hL.map (fun t v q=>q.wrote hA ha rfl) fun b hb=>aA fun z=>?_).NB hx ((At.bU hi a).wrote hA ha rfl)
   subst z
   exact (jI.mp nd).1 hb⟩
end
theorem Cs {H H':Hp} (sm:aN H H') {v w:V} {p:kr} (h:fF H v p=some w):fF H' v p=some w:=by
 unfold fF at h ⊢
 split at h
 · rename_i a
   cases e:H a with
   | none=>rw [e] at h; cases h
   | some o=>rw [e] at h; rw [sm _ _ e]; exact h
 · cases h
theorem gU {H H':Hp} (sm:aN H H'):∀ {ps:List kr} {v w:V},valAt H v ps=some w→valAt H' v ps=some w
 | [],v,w,h=>h
 | p :: ps,v,w,h=>by
   unfold valAt at h ⊢
   cases e:fF H v p with
   | none=>rw [e] at h; cases h
   | some u=>rw [e] at h; rw [Cs sm e]; exact gU sm (ps:=ps) h
section
variable {X:Cx} {M:Mz} {e o i:Expr} {ps:List kr} {pos fB:Pos}
def Vi (M:Mz) (ps:List kr) (fi fe:FE):FM:=fun d ρ s=>fe ρ fun t=>(∃ x,s.get ps=some x)∧fi ρ fun j=>match Ck j with
 | some kk=>bU t=true∧(∀ e∈ρ,eX e)∧∃ ks ts,s.get ps=some (.dk ks ts)∧ts.length < 16777216∧d.nx (nk M ρ (s.put ps (.dk (eE ks kk) (cc ks ts kk t)))) (s.put ps (.dk (eE ks kk) (cc ks ts kk t)))
 | none=>False
theorem KH {fi fe:FE} (hu:X.A.units+1 < cLine) (ho:PE X o (jD M.k ps)) (hi:∀ H0,VR X ⟨H0,[],M.Ox⟩ i fi) (he:∀ H0,VE X ⟨H0,[],M.Ox⟩ e fe)
  (hs:swapsWith e (some (.Subscript o i fB)) pos.line X.env=pure false:=by rfl) :
  MS X M (.Assign [.Subscript o i fB] e pos) (Vi M ps fi fe):=⟨fun pins s' σ H D J ⟨ρ,s,d,⟨⟨O,fp,F,I⟩,hp⟩,hg,Fi⟩=>by
 refine AX hu ho (hi (iC H (roots O)) []) (he (iC H (roots O)) []) hs pins s' σ H D J ⟨ρ,O,_,I,hg,fun t ht v H1 s1 a1=>?_⟩
 obtain ⟨⟨x,hx⟩,ht⟩:=ht
 obtain ⟨w,_,_,_,_,ev,_,_⟩:=(F.now (I.same s1) (bJ I)).nh.focus hx
 obtain ⟨_,hσ⟩:=cJ I hp
 refine ⟨.ref M.a,w,hσ,ev,ρ,O,_,I.same s1,ht,fun j hj w' H2 s2 a2=>?_⟩
 split at hj
 · rename_i kk ek
   obtain ⟨KI,oX,ks,ts,FV,hlen,hq⟩:=hj
   have I0:=(I.same s1).same s2
   have F2:=F.now I0 (bJ I)
   have I2:=I0.rebase (Z:=zf M O H) rfl
   obtain ⟨w2,f',NC,hS,sub,nd,wr⟩:=F2.put (ps:=ps) I2 hp oX FV
   rw [gU s2 ev] at NC
   cases NC
   have A5:=hS
   simp only [cj] at A5
   obtain ⟨l,xs,rfl,rfl,hl,h3,h4⟩:=A5
   have q:=Fw ks xs kk v hl
   have hz:(ks.zip xs).length < sizeLine:=by
    rw [sizeLine_eq,Oo,hl,MH,h4.length]
    omega
   have hA:l∈roots O ++ (fp ++ M.Ox):=bO _ (cq _ (sub _ c6))
   rw [ko a2 ek]
   refine ⟨l,_,rfl,Ce.k h3 hz,?_⟩
   rw [q.1]
   refine Fi.nx _ _ σ _ (wr (y:=.dk (eE ks kk) (cc ks ts kk t)) c6 ?_) hq
   simp only [cj]
   exact ⟨l,cc ks xs kk v,rfl,rfl,q.2,aI,az.wrote hA h3 rfl (v8 h4 (At.bU KI (a1.same s2)))⟩
 · exact hj.elim⟩
end
theorem aZ.FW {K:KFr} {H:Hp} {A:List Addr} {t:T} {v:V}:∀ {xs:List S} {vs:List V} {fp:List Addr},aZ K H A xs vs fp→At K H A t v→aZ K H A (xs ++ [.lf t]) (vs ++ [v]) fp
 | [],vs,fp,h,q=>by
   simp only [aZ] at h
   obtain ⟨rfl,rfl⟩:=h
   simp only [SE,aZ,cj]
   exact ⟨v,[],[],[],rfl,rfl,⟨rfl,q⟩,rfl,rfl⟩
 | x :: xs,vs,fp,h,q=>by
   simp only [aZ] at h
   obtain ⟨v0,r,f,g,rfl,rfl,h1,h2⟩:=h
   simp only [MC,aZ]
   exact ⟨v0,r ++ [v],f,g,rfl,rfl,h1,h2.FW q⟩
section
variable {X:Cx} {M:Mz} {e o:Expr} {ps:List kr} {pos apos aW:Pos}
def acq (M:Mz) (ps:List kr) (fe:FE):FM:=fun d ρ s=>∃ ys,s.get ps=some (.lst ys)∧ys.length < 16777216∧fe ρ fun t=>bU t=true∧(∀ e∈ρ,eX e)∧d.nx (nk M ρ (s.put ps (.lst (ys ++ [.lf t])))) (s.put ps (.lst (ys ++ [.lf t])))
theorem Ct {fe:FE} (ho:PE X o (jD M.k ps)) (he:∀ H0,VE X ⟨H0,[],M.Ox⟩ e fe)
  (c7:attributeBase o "append" X.env (eval o X.env)=eval o X.env:=by rfl)
  (la:((backTo aW (starEach [e] X.env)).all (fun x=>!x.1) && (backToKw aW (keywordEach [] X.env)).all (fun x=>x.1.isSome)
    && decide (([e]:List Expr).length+([]:List Keyword).length+(if ([]:List Keyword).isEmpty then 0 else 1) < 30))=true:=by rfl)
  (c8:(apos.endLine == aW.line)=true:=by rfl) (hs:starEach [e] X.env=(false,eval e X.env) :: starEach [] X.env:=by rfl) (dP:(backTo aW (starEach [] X.env)).any (·.1)=false:=by rfl)
  (JB:swapsWith (.Call (.Attribute o "append" apos) [e] [] aW) none pos.line X.env=pure false:=by rfl) :
  MS X M (.Expr (.Call (.Attribute o "append" apos) [e] [] aW) pos) (acq M ps fe):=⟨fun pins s' σ H D J ⟨ρ,s,d,⟨⟨O,fp,F,I⟩,hp⟩,hg,Fi⟩=>by
 obtain ⟨ys,FV,hlen,hg⟩:=hg
 obtain ⟨w,_,f,_,_,ev,Vj,_⟩:=F.nh.focus FV
 have wt:=Vj
 simp only [cj] at wt
 obtain ⟨l,xs,gH,rfl,hl,rfl,hL⟩:=wt
 obtain ⟨_,hσ⟩:=cJ I hp
 refine i8 (rD Sy Mt Mu cZ ho (bw (he (iC H (roots O)) []) cO hs) c7 la c8 hs dP) JB pins s' σ H D J
  ⟨.ref M.a,.ref l,hσ,ev,.inl ⟨rfl,xs,fA.of hl⟩,ρ,O,_,I,hg,fun t ht v H1 s1 a1=>?_⟩
 obtain ⟨KI,oX,hq⟩:=ht
 have I0:=I.same s1
 have F1:=F.now I0 (bJ I)
 have I1:=I0.rebase (Z:=zf M O H) rfl
 obtain ⟨w2,f',NC,hS,sub,nd,wr⟩:=F1.put (ps:=ps) I1 hp oX FV
 rw [gU s1 ev] at NC
 cases NC
 have A5:=hS
 simp only [cj] at A5
 obtain ⟨l',DP,KJ,e',MJ,rfl,Vk⟩:=A5
 cases e'
 have hA:l∈roots O ++ (fp ++ M.Ox):=bO _ (cq _ (sub _ c6))
 refine ⟨l,DP,v,rfl,rfl,MJ,by rw [sizeLine_eq,Vk.length]; omega,?_⟩
 refine Fi.nx _ _ σ _ (wr (y:=.lst (ys ++ [.lf t])) c6 ?_) hq
 simp only [cj]
 refine ⟨l,DP ++ [v],KJ,rfl,aI,rfl,?_⟩
 refine (Vk.map (fun t v q=>q.wrote hA MJ rfl) fun b hb=>aA fun z=>?_).FW ((At.bU KI a1).wrote hA MJ rfl)
 subst z
 exact (jI.mp nd).1 hb⟩
end
section
variable {K:KFr} {M:Mz} {O:List (Option Addr)} {fp:List Addr} {s:S} {ρ:En} {σ:St} {H:Hp} {A:List Addr}
theorem Mf.acr {ps:List kr} {x:S} (F:Mf K M O fp s H) (I:ax K (zf M O H) [] O ρ σ H) (hp:ρ[M.k]?=some (some (.pin M.a s.t,false))) (oX:∀ e∈ρ,eX e) (hg:s.get ps=some x) :
  ∃ w f,valAt H (.ref M.a) ps=some w∧cj K H (roots O ++ (fp ++ M.Ox)) x w f∧(∀ b∈f,b∈fp)∧f.Nodup ∧
   ∀ {H':Hp} {g:List Addr} {y:S},(∀ b o,H b=some o→b∉f→H' b=some o)→g.Nodup→(∀ b∈g,b∈f∨H b=none) →
    (∀ A',(∀ t v,At K H (roots O ++ (fp ++ M.Ox)) t v→At K H' A' t v)→cj K H' A' y w g)→kx K M (nk M ρ (s.put ps y)) (s.put ps y) σ H':=by
 obtain ⟨w,f1,f,f2,yP,ev,hs,back⟩:=F.nh.focus hg
 have sub:∀ b∈f,b∈fp:=fun b hb=>by rw [yP]; exact bO _ (cq _ hb)
 have ky:∀ b∈f1 ++ f2,b∈fp:=fun b hb=>by
  rw [yP]
  rcases cA.mp hb with z | z
  · exact cq _ z
  · exact bO _ (bO _ z)
 have KD:=F.nd
 rw [yP] at KD
 have n1:=x8.mp KD
 have n2:=x8.mp n1.2.1
 refine ⟨w,f,ev,hs,sub,n2.1,fun {H' g y} fr ndg Qj hy=>?_⟩
 obtain ⟨ho,hσ⟩:=cJ I hp
 have out:∀ b∈f1 ++ f2,b∉f:=fun b hb z=>by
  rcases cA.mp hb with q | q
  · exact n1.2.2 _ q _ (cq _ z) rfl
  · exact n2.2.2 _ z _ q rfl
 have go:∀ t v,At K H (roots O ++ (fp ++ M.Ox)) t v→At K H' (roots O ++ ((f1 ++ (g ++ f2)) ++ M.Ox)) t v:=fun t v q=>by
  have q1:At K H (g ++ (roots O ++ (fp ++ M.Ox))) t v:=q.more fun a ha=>by
   rcases cA.mp ha with z | z
   · rcases Qj a z with y | y
     · exact .inl (bO _ (cq _ (sub a y)))
     · exact .inr y
   · exact .inl z
  have q2:=q1.sX (H':=H') (as:=f) fr (fun a ha=>bO _ (bO _ (cq _ (sub a ha)))) fun a ha=>F.nh.mut a (sub a ha)
  refine q2.aX fun a ha=>?_
  rcases cA.mp ha with z | z
  · exact bO _ (cq _ z)
  · rcases cA.mp z with z | z
    · rcases cA.mp z with z | z
      · exact bO _ (bO _ (cq _ (ky a (cq _ z))))
      · rcases cA.mp z with z | z
        · exact cq _ z
        · exact bO _ (bO _ (cq _ (ky a (bO _ z))))
    · exact bO _ (bO _ (bO _ z))
 have Qk:∀ b∈fp,H b≠none:=fun b hb=>by obtain ⟨u,e,_⟩:=F.nh.mut b hb; rw [e]; simp
 have each:∀ b∈f1 ++ (g ++ f2),b∈fp∨H b=none:=fun b hb=>by
  rcases cA.mp hb with z | z
  · exact .inl (ky b (cq _ z))
  · rcases cA.mp z with z | z
    · exact (Qj b z).imp (sub b) id
    · exact .inl (ky b (bO _ z))
 have FY:∀ b∈g,b∉f1 ++ f2:=fun b hb z=>by
  rcases Qj b hb with y | y
  · exact out b z y
  · exact Qk b (ky b z) y
 refine F.write I oX (by rw [hp]; simp) ho hσ (fun b' o e n=>fr b' o e fun z=>n (sub b' z)) (fp':=f1 ++ (g ++ f2)) ?_ ?_ (fun b hb=>?_) fun b hb=>?_
 · refine back (H':=H') (A':=roots O ++ ((f1 ++ (g ++ f2)) ++ M.Ox)) go (fun b' KG=>?_) (hy _ go)
   obtain ⟨u,e,_⟩:=F.nh.mut b' (ky b' KG)
   rw [e]; exact fr _ _ e (out b' KG)
 · refine x8.mpr ⟨n1.1,x8.mpr ⟨ndg,n2.2.1,fun a ha b hb z=>?_⟩,fun a ha b hb z=>?_⟩
   · subst z; exact FY a ha (bO _ hb)
   · subst z
     rcases cA.mp hb with y | y
     · exact FY a y (cq _ ha)
     · exact n1.2.2 _ ha _ (bO _ y) rfl
 · rcases each b hb with z | z
   · exact F.lL b z
   · refine ⟨fun y=>I.xZ b (cq _ y) z,fun y=>I.xZ b (bO _ y) z⟩
 · rcases each b hb with z | z
   · exact F.fr b z
   · cases e:M.H0 b with
     | none=>exact .inr rfl
     | some o =>
       refine .inl (Tb fun n=>?_)
       rw [(F.kp b o e n).1] at z
       cases z
theorem kx.put {j:Nat} {t:T} {v:V} (S:kx K M ρ s σ H) (hj:M.k≠j) (hi:bU t=true) (a:At K H A t v):kx K M (ρ.set j (some (t,false))) s (σ.set j (some v)) H:=by
 obtain ⟨⟨O,fp,F,I⟩,hp⟩:=S
 exact kx.of F (bJ I) (I.put (fun p hp=>absurd hp gK) (At.bU hi a)) (by rw [rf (Ne.symm hj)]; exact hp)
end
section
variable {K:KFr} {H:Hp} {A:List Addr}
theorem aZ.FZ {z:S}:∀ {ys:List S} {vs:List V} {fp:List Addr},aZ K H A (ys ++ [z]) vs fp→∃ Vm v f g,vs=Vm ++ [v]∧fp=f ++ g∧aZ K H A ys Vm f∧cj K H A z v g
 | [],vs,fp,h=>by
   simp only [SE,aZ] at h
   obtain ⟨v,r,f,g,rfl,rfl,h1,rfl,rfl⟩:=h
   exact ⟨[],v,[],f,rfl,by simp,by simp [aZ],h1⟩
 | x :: xs,vs,fp,h=>by
   simp only [MC,aZ] at h
   obtain ⟨v0,r,f,g,rfl,rfl,h1,h2⟩:=h
   obtain ⟨Vm,v,f',g',rfl,rfl,h3,h4⟩:=aZ.FZ h2
   refine ⟨v0 :: Vm,v,f ++ f',g',rfl,by simp,?_,h4⟩
   simp only [aZ]
   exact ⟨v0,Vm,f,f',rfl,rfl,h1,h3⟩
theorem aZ.Vn:∀ {xs:List S} {vs:List V} {fp:List Addr} {i:Nat} {t:T},aZ K H A xs vs fp→xs[i]?=some (.lf t)→∃ v,vs[i]?=some v∧At K H A t v:=fun h e=>by
 obtain ⟨v,f1,f,f2,e1,_,h1,_⟩:=h.focus e
 simp only [cj] at h1
 exact ⟨v,e1,h1.2⟩
end
section
variable {X:Cx} {M:Mz} {o:Expr} {ps:List kr} {C:Addr} {f:Str} {pos apos aW Vo Vp:Pos}
def Vq (M:Mz) (j:Nat) (ps:List kr) (C:Addr) (f:Str):FM:=fun d ρ s=>∃ ys ns zs i t,M.k≠j∧s.get ps=some (.lst (ys ++ [.ins C ns zs]))∧jP f ns=some i∧zs[i]?=some (.lf t)∧bU t=true∧(∀ e∈ρ,eX e)∧d.nx ((nk M ρ (s.put ps (.lst ys))).set j (some (t,false))) (s.put ps (.lst ys))
theorem KL {j:Nat} {x:Str} (hN:X.N.Nodup) (hj:X.N[j]?=some x) (hx:Loc X.env.scope x) (cl:yi X.K C) (na:a_ X.K C f) (ho:PE X o (jD M.k ps))
  (c7:attributeBase o "pop" X.env (eval o X.env)=eval o X.env:=by rfl) (c8:(apos.endLine == aW.line)=true:=by rfl)
  (Cb:attributeBase (.Call (.Attribute o "pop" apos) [] [] aW) f X.env (eval (.Call (.Attribute o "pop" apos) [] [] aW) X.env)=eval (.Call (.Attribute o "pop" apos) [] [] aW) X.env:=by rfl)
  (hs:swapsWith (.Attribute (.Call (.Attribute o "pop" apos) [] [] aW) f Vo) (some (.Name x Vp)) pos.line X.env=pure false:=by rfl) (hf:X.fn x=true∨X.env.scope.names.lookup x=some .local:=by first | exact .inl rfl | exact .inr rfl | assumption) :
  MS X M (.Assign [.Name x Vp] (.Attribute (.Call (.Attribute o "pop" apos) [] [] aW) f Vo) pos) (Vq M j ps C f):=⟨fun pins s' σ H D J ⟨ρ,s,d,⟨⟨O,fp,F,I⟩,hp⟩,hg,Fi⟩=>by
 obtain ⟨ys,ns,zs,i,t,hkj,FV,hix,hz,KI,oX,hq⟩:=hg
 obtain ⟨w,f',ev,hS,sub,nd,wr⟩:=F.acr (ps:=ps) I hp oX FV
 have A5:=hS
 simp only [cj] at A5
 obtain ⟨l,xs,gH,rfl,hl,rfl,hL⟩:=A5
 obtain ⟨xs0,v,g1,g2,rfl,rfl,hL1,hZ⟩:=hL.FZ
 simp only [cj] at hZ
 obtain ⟨a,dx,vs,fz,rfl,hlen,ha,rfl,hLz⟩:=hZ
 obtain ⟨u,eu,au⟩:=hLz.Vn hz
 obtain ⟨_,hσ⟩:=cJ I hp
 have nl:=jI.mp nd
 have Yj:a≠l:=fun z=>nl.1 (by rw [← z]; exact bO _ c6)
 have hA:l∈roots O ++ (fp ++ M.Ox):=bO _ (cq _ (sub _ c6))
 refine n_ hN hj hx (yl (sR Sy PySem.F.slot_list_pop PySem.F.type_list_pop Ex ho c7 c8) Cb) hs hf pins s' σ H D J
  ⟨.ref M.a,.ref l,hσ,ev,.inl ⟨rfl,_,fA.of hl⟩,l,_,.ref a,rfl,rfl,hl,by simp,a,C,dx,_,u,rfl,by rw [aA Yj]; exact ha,cl,na,by rw [lK f ns vs hix]; exact eu,?_⟩
 rw [List.dropLast_concat]
 refine Fi.nx _ _ _ _ (kx.put (A:=[]) (wr (H':=upd H l (.lst xs0)) (g:=l :: g1) (y:=.lst ys) (fun b o e n=>?_) ?_ (fun b hb=>?_) fun A' go=>?_) hkj KI (At.bU KI (au.wrote hA hl rfl))) hq
 · rw [aA fun z=>n (by rw [z]; exact c6)]; exact e
 · refine jI.mpr ⟨fun z=>nl.1 (cq _ z),(x8.mp nl.2).1⟩
 · rcases cY.mp hb with z | z
   · exact .inl (by rw [z]; exact c6)
   · exact .inl (eB _ (cq _ z))
 · simp only [cj]
   refine ⟨l,xs0,g1,rfl,aI,rfl,hL1.map go fun b hb=>aA fun z=>?_⟩
   subst z
   exact nl.1 (cq _ hb)⟩
end
section
variable {K:KFr} {M:Mz} {O:List (Option Addr)} {fp:List Addr} {s:S} {ρ:En} {σ:St} {H:Hp} {A:List Addr}
theorem Mf.putN {N:List Addr} {ps:List kr} {x:S} (F:Mf K M O fp s H) (FN:cj K H (N ++ (roots O ++ (fp ++ M.Ox))) s (.ref M.a) fp) (hN:∀ b∈N,b∉fp∧b∉roots O∧b∉M.Ox∧(b∈M.rH∨M.H0 b=none)) (I:ax K (zf M O H) [] O ρ σ H) (hp:ρ[M.k]?=some (some (.pin M.a s.t,false))) (oX:∀ e∈ρ,eX e) (hg:s.get ps=some x) :
  ∃ w f,valAt H (.ref M.a) ps=some w∧cj K H (N ++ (roots O ++ (fp ++ M.Ox))) x w f∧(∀ b∈f,b∈fp)∧f.Nodup ∧
   ∀ {H':Hp} {g:List Addr} {y:S},(∀ b o,H b=some o→b∉f→H' b=some o)→g.Nodup→(∀ b∈g,b∈f∨H b=none∨b∈N) →
    (∀ A',(∀ t v,At K H (N ++ (roots O ++ (fp ++ M.Ox))) t v→At K H' A' t v)→cj K H' A' y w g)→kx K M (nk M ρ (s.put ps y)) (s.put ps y) σ H':=by
 obtain ⟨w,f1,f,f2,yP,ev,hs,back⟩:=FN.focus hg
 have sub:∀ b∈f,b∈fp:=fun b hb=>by rw [yP]; exact bO _ (cq _ hb)
 have ky:∀ b∈f1 ++ f2,b∈fp:=fun b hb=>by
  rw [yP]
  rcases cA.mp hb with z | z
  · exact cq _ z
  · exact bO _ (bO _ z)
 have KD:=F.nd
 rw [yP] at KD
 have n1:=x8.mp KD
 have n2:=x8.mp n1.2.1
 refine ⟨w,f,ev,hs,sub,n2.1,fun {H' g y} fr ndg Qj hy=>?_⟩
 obtain ⟨ho,hσ⟩:=cJ I hp
 have out:∀ b∈f1 ++ f2,b∉f:=fun b hb z=>by
  rcases cA.mp hb with q | q
  · exact n1.2.2 _ q _ (cq _ z) rfl
  · exact n2.2.2 _ z _ q rfl
 have go:∀ t v,At K H (N ++ (roots O ++ (fp ++ M.Ox))) t v→At K H' (roots O ++ ((f1 ++ (g ++ f2)) ++ M.Ox)) t v:=fun t v q=>by
  have q1:At K H (g ++ (N ++ (roots O ++ (fp ++ M.Ox)))) t v:=q.more fun a ha=>by
   rcases cA.mp ha with z | z
   · rcases Qj a z with y | y | y
     · exact .inl (bO _ (bO _ (cq _ (sub a y))))
     · exact .inr y
     · exact .inl (cq _ y)
   · exact .inl z
  have q2:=q1.sX (H':=H') (as:=f) fr (fun a ha=>bO _ (bO _ (bO _ (cq _ (sub a ha))))) fun a ha=>F.nh.mut a (sub a ha)
  refine q2.aX fun a ha=>?_
  rcases cA.mp ha with z | z
  · exact bO _ (bO _ (cq _ z))
  · rcases cA.mp z with z | z
    · rcases cA.mp z with z | z
      · exact bO _ (bO _ (bO _ (cq _ (ky a (cq _ z)))))
      · rcases cA.mp z with z | z
        · exact cq _ z
        · exact bO _ (bO _ (bO _ (cq _ (ky a (bO _ z)))))
    · exact bO _ (bO _ (bO _ (bO _ z)))
 have Qk:∀ b∈fp,H b≠none:=fun b hb=>by obtain ⟨u,e,_⟩:=F.nh.mut b hb; rw [e]; simp
 have each:∀ b∈f1 ++ (g ++ f2),b∈fp∨H b=none∨b∈N:=fun b hb=>by
  rcases cA.mp hb with z | z
  · exact .inl (ky b (cq _ z))
  · rcases cA.mp z with z | z
    · exact (Qj b z).imp (sub b) id
    · exact .inl (ky b (bO _ z))
 have FY:∀ b∈g,b∉f1 ++ f2:=fun b hb z=>by
  rcases Qj b hb with y | y | y
  · exact out b z y
  · exact Qk b (ky b z) y
  · exact (hN b y).1 (ky b z)
 refine F.write I oX (by rw [hp]; simp) ho hσ (fun b' o e n=>fr b' o e fun z=>n (sub b' z)) (fp':=f1 ++ (g ++ f2)) ?_ ?_ (fun b hb=>?_) fun b hb=>?_
 · refine back (H':=H') (A':=roots O ++ ((f1 ++ (g ++ f2)) ++ M.Ox)) go (fun b' KG=>?_) (hy _ go)
   obtain ⟨u,e,_⟩:=F.nh.mut b' (ky b' KG)
   rw [e]; exact fr _ _ e (out b' KG)
 · refine x8.mpr ⟨n1.1,x8.mpr ⟨ndg,n2.2.1,fun a ha b hb z=>?_⟩,fun a ha b hb z=>?_⟩
   · subst z; exact FY a ha (bO _ hb)
   · subst z
     rcases cA.mp hb with y | y
     · exact FY a y (cq _ ha)
     · exact n1.2.2 _ ha _ (bO _ y) rfl
 · rcases each b hb with z | z | z
   · exact F.lL b z
   · refine ⟨fun y=>I.xZ b (cq _ y) z,fun y=>I.xZ b (bO _ y) z⟩
   · exact ⟨(hN b z).2.1,(hN b z).2.2.1⟩
 · rcases each b hb with z | z | z
   · exact F.fr b z
   · cases e:M.H0 b with
     | none=>exact .inr rfl
     | some o =>
       refine .inl (Tb fun n=>?_)
       rw [(F.kp b o e n).1] at z
       cases z
   · exact (hN b z).2.2.2
end
end VT
namespace PySem
open Sem (wp)
section
variable {prog:Program} {w:World} {A:Around} {E:Value→Shared→Prop} {s:Shared}
variable {it d:Addr} {o:Obj} {es:Array DictEntry} {ep i:Nat}
end
end PySem
namespace VT
open PySem PySem.Spec PyProof.Rows L2
section
variable {X:Cx} {Z:Zc} {tg l:Expr}
end
section
variable {X:Cx} {Z:Zc}
end
section
variable {κ α:Type} [DecidableEq κ]
end
section
variable {X:Cx} {Z:Zc} {e a b:Expr} {es:List Expr} {fa fb fc:FE} {g:FA} {pos:Pos}
def acs:T→T
 | .pin _ t=>t
 | t=>t
def acu (f:FE):FE:=fun ρ Q=>f ρ fun t=>Q (acs t)
theorem cD (h:VR X Z e fa):VR X Z e (acu fa):=.mk fun tm=>PE.weak (h tm) fun σ H Q ⟨ρ,O,q,I,hf,k⟩=>⟨ρ,O,_,I,hf,fun t ht v H' s z=>by
 refine k _ ht v H' s ?_
 cases t with
 | pin b t =>
   rcases z with z | ⟨a,_,r⟩
   · simp only [At] at z; exact .inl z.2
   · exact r.elim
 | _=>exact z⟩
end
end VT
namespace PySem
open Sem (wp)
section
variable {prog:Program} {w:World} {A:Around} {E:Value→Shared→Prop} {s:Shared} {it d:Addr} {o:Obj} {es:Array DictEntry} {ep i:Nat} {ok ov:Value}
end
end PySem
namespace VT
open PySem PySem.Spec PyProof.Rows L2
section
variable {X:Cx} {Z:Zc} {l:Expr}
end
structure MG where
 a:Addr
 dx:Addr
 a1:Addr
 a2:Addr
 C:Addr
 H0:Hp
 n1:a≠a1
 n2:a≠a2
 n3:a1≠a2
structure S2 where
 k1:List (List Key)
 t1:List T
 k2:List (List Key)
 t2:List T
abbrev fN:List Str:=["names","cells"]
section
variable {K:KFr} {M:MG} {tm:List (T×V)} {ρ:En} {s:S2} {σ:St} {H H':Hp}
def adq (ρ:En):Bool:=ρ.all fun e=>match e with
 | some (_,true)=>false
 | _=>true
def upE (M:MG) (s:S2):Option (T×Bool)→Option (T×Bool)
 | some (.ob x,false)=>if x=M.a1 then some (.dt s.k1 s.t1,false) else if x=M.a2 then some (.dt s.k2 s.t2,false) else if x=M.a then some (.ins M.C fN [.pin M.a1 (.dt s.k1 s.t1),.pin M.a2 (.dt s.k2 s.t2)],false) else some (.ob x,false)
 | e=>e
def vwO (b:Option T):Option (T×Bool):=b.map fun t=>(t,false)
end
structure GEn where
 nx:En→S2→Prop
 rt:S2→T→Prop
 bk:En→S2→Prop:=fun _ _=>False
 ct:En→S2→Prop:=fun _ _=>False
abbrev FG2:=GEn→En→S2→Prop
section
variable {X:Cx} {M:MG} {st:Stmt} {rest:List Stmt} {g u:FG2} {e:Expr} {pos:Pos}
end
section
variable {X:Cx} {Z:Zc} {e a b:Expr} {es:List Expr} {fa fb fc:FE} {g:FA} {pos:Pos}
end
section
variable {P:Program} {w:World} {K:KFr} {mg:Str→Option Value} {base:Heap}
end
section
variable {K:KFr} {H H':Hp} {A:List Addr}
theorem At.frame {t:T} {v:V} (here:∀ b∈A,∃ u,H b=some u∧jK u=true) (fr:∀ b o,H b=some o→b∉A→H' b=some o) (h:At K H A t v):At K H' A t v:=by
 have rd:∀ {a:Addr} {u:HO},a∉A→Rd H a u→Rd H' a u:=fun n q=>q.elim (fun z=>.inl (fr _ _ z n)) fun ⟨o,z⟩=>.inr ⟨o,fr _ _ z n⟩
 refine At.map (fun a vs q=>q.elim (fun z=>.inl ⟨rd z.2 z.1,z.2⟩) .inr) (fun a vs q=>q.elim (fun z=>.inl (rd (fun m=>?_) z)) .inr) (fun a u q=>⟨fr _ _ q.1 q.2,q.2⟩) h
 obtain ⟨u,e,mu⟩:=here a m
 rcases z with z | ⟨o,z⟩
 · rw [e] at z; cases z; cases mu
 · rw [e] at z; cases z; cases mu
end
section
variable {X:Cx} {Z:Zc} {C:Addr} {Gg:T→S2→(S2→T→Prop)→Prop} {Gli:List T→(Rt→Prop)→Prop}
theorem Ql (K:KFr) (H:Hp):ax K ⟨H,[],[]⟩ [] [] [] [] H:=⟨rfl,rfl,fun i e h=>by simp at h,MD,fun a h=>absurd h gK,fun p hp=>absurd hp gK,fun a h=>absurd h gK,fun b o e _=>e,fun p hp=>absurd hp gK⟩
end
section
variable {X:Cx} {C:Addr} {F1 F2:Str}
def Vr (K:KFr) (C:Addr) (F1 F2:Str) (i n:Nat):TE:=fun σ H Q=>∃ v1 t1 p ks ts,σ[i]?=some (some v1)∧σ[n]?=some (some (.ref p))∧bU t1=true∧At K H [] t1 v1∧At K H [] (.dk ks ts) (.ref p) ∧
 ∀ a dx u H3,aN H H3→H a=none→H3 a=some (.ins C dx ([F1,F2].zip [u,.ref p]))→At K H3 [] t1 u→Q (.ref a) H3
theorem Qm {i n:Nat} {xC x y:Str} {kC:Nat} {fI:Addr} {Vs:FuncData} {psI:List Str} {GI:List T→(T→Prop)→Prop} {pC pd1 SU pc:Pos} (MI:Mk X.K C fI) (FI:b_ X.prog X.w X.K X.mg X.base dI kC fI Vs psI (Ny X.K C 2 GI)) (hGI:∀ t1 t2 q,q (.ins C [F1,F2] [t1,t2])→GI [t1,t2] q) (rI:bz (kC+1) X.A) (gI:Gl X xC) (mI:X.mg xC=some (.ref C)) (bI:Binds X.K Vs psI [])
  (hN:X.N[i]?=some x:=by rfl) (hv:j5 X.env.scope x:=by first | exact Or.inl rfl | exact Or.inr (Or.inl rfl) | exact Or.inr (Or.inr rfl)) (hd:ic x:=by decide) (gn:va x:=by decide)
  (hN2:X.N[n]?=some y:=by rfl) (hv2:j5 X.env.scope y:=by first | exact Or.inl rfl | exact Or.inr (Or.inl rfl) | exact Or.inr (Or.inr rfl)) (hd2:ic y:=by decide) (acv:va y:=by decide)
  (db1:ic xC:=by decide) (s1:starEach [.Name x pd1,.Name y SU] X.env=(false,eval (.Name x pd1) X.env) :: starEach [.Name y SU] X.env:=by rfl) (s2:starEach [.Name y SU] X.env=(false,eval (.Name y SU) X.env) :: starEach [] X.env:=by rfl)
  (s3:(backTo pc (starEach [.Name y SU] X.env)).any (·.1)=false:=by rfl):PE X (.Call (.Name xC pC) [.Name x pd1,.Name y SU] [] pc) (Vr X.K C F1 F2 i n) :=
 PE.weak (sL MI FI rI gI mI bI .nil jz (bw (bT hN hv hd gn) (bw (bT hN2 hv2 hd2 acv) cO s2) s1) db1 s1 s3) fun σ H Q h=>by
  obtain ⟨v1,t1,p,ks,ts,e1,e2,hi,a1,a2,k⟩:=h
  refine ⟨v1,e1,.ref p,e2,?_⟩
  refine A0 (X:=X) (Z:=⟨_,[],[]⟩) (C:=C) (G:=GI) (Q:=Q) (q:=fun r=>r = .fr (.ins C [F1,F2] [t1,.pin p (.dk ks ts)])) (Ql X.K _) (ts:=[t1,.pin p (.dk ks ts)]) (vs:=[v1,.ref p]) (az.cons a1 (az.cons ?_ az.nil)) rfl (hGI _ _ (fun u=>Rt.fr u = .fr (.ins C [F1,F2] [t1,.pin p (.dk ks ts)])) rfl) (fun r er v H3 sm z=>?_)
  · unfold At
    exact ⟨rfl,a2⟩
  · subst er
    obtain ⟨a,rfl,_,⟨dx,vs,hl,ea,hv⟩,n0,_⟩:=z
    simp only [az] at hv
    obtain ⟨u,_,rfl,h1,_,_,rfl,h2,rfl⟩:=hv
    unfold At at h2
    obtain ⟨rfl,_⟩:=h2
    exact k a dx u H3 sm n0 ea (At.bU hi h1)
end
section
variable {K:KFr} {H:Hp} {A:List Addr}
theorem aZ.snoc {z:S} {v:V} {g:List Addr}:∀ {xs:List S} {vs:List V} {fp:List Addr},aZ K H A xs vs fp→cj K H A z v g→aZ K H A (xs ++ [z]) (vs ++ [v]) (fp ++ g)
 | [],vs,fp,h,q=>by
   simp only [aZ] at h
   obtain ⟨rfl,rfl⟩:=h
   simp only [SE,aZ]
   exact ⟨v,[],g,[],rfl,by simp,q,rfl,rfl⟩
 | x :: xs,vs,fp,h,q=>by
   simp only [aZ] at h
   obtain ⟨v0,r,f,f2,rfl,rfl,h1,h2⟩:=h
   simp only [MC,aZ]
   exact ⟨v0,r ++ [v],f,f2 ++ g,rfl,by simp,h1,h2.snoc q⟩
end
theorem jQ:∀ {O:List (Option Addr)} {n:Nat} {p:Addr},(roots O).Nodup→O[n]?=some (some p)→p∉roots (O.set n none)
 | [],n,p,_,e=>by simp at e
 | o :: O,0,p,h,e=>by
   cases e
   simp only [roots,Mw,mx,id] at h ⊢
   exact (jI.mp h).1
 | o :: O,n+1,p,h,e=>by
   have e':O[n]?=some (some p):=by simpa using e
   cases o with
   | none =>
     simp only [roots,DV,mx,id] at h ⊢
     exact jQ h e'
   | some a =>
     simp only [roots,DV,mx,id] at h ⊢
     have h2:=jI.mp h
     intro z
     rcases cY.mp z with y | y
     · exact h2.1 (by rw [← y]; exact aK.mpr (ik e'))
     · exact jQ h2.2 e' y
section
variable {X:Cx} {M:Mz} {o mk:Expr} {ps:List kr} {C:Addr} {F1 F2:Str} {pos apos aW:Pos}
def Vt (M:Mz) (ps:List kr) (C:Addr) (F1 F2:Str) (i n:Nat):FM:=fun d ρ s=>∃ ys t1 ks ts,s.get ps=some (.lst ys)∧ys.length < 16777216∧M.k≠n∧ρ[i]?=some (some (t1,false))∧bU t1=true∧ρ[n]?=some (some (.dk ks ts,true))∧eR ts=true∧(∀ e∈ρ,eX e) ∧
 d.nx (nk M (ρ.set n none) (s.put ps (.lst (ys ++ [.ins C [F1,F2] [.lf t1,.dk ks ts]])))) (s.put ps (.lst (ys ++ [.ins C [F1,F2] [.lf t1,.dk ks ts]])))
theorem KN {i n:Nat} (ho:PE X o (jD M.k ps)) (he:PE X mk (Vr X.K C F1 F2 i n))
  (c7:attributeBase o "append" X.env (eval o X.env)=eval o X.env:=by rfl)
  (la:((backTo aW (starEach [mk] X.env)).all (fun x=>!x.1) && (backToKw aW (keywordEach [] X.env)).all (fun x=>x.1.isSome)
    && decide (([mk]:List Expr).length+([]:List Keyword).length+(if ([]:List Keyword).isEmpty then 0 else 1) < 30))=true:=by rfl)
  (c8:(apos.endLine == aW.line)=true:=by rfl) (hs:starEach [mk] X.env=(false,eval mk X.env) :: starEach [] X.env:=by rfl) (dP:(backTo aW (starEach [] X.env)).any (·.1)=false:=by rfl)
  (JB:swapsWith (.Call (.Attribute o "append" apos) [mk] [] aW) none pos.line X.env=pure false:=by rfl) :
  MS X M (.Expr (.Call (.Attribute o "append" apos) [mk] [] aW) pos) (Vt M ps C F1 F2 i n):=⟨fun pins s' σ H D J ⟨ρ,s,d,⟨⟨O,fp,F,I⟩,hp⟩,hg,Fi⟩=>by
 obtain ⟨ys,t1,ks,ts,FV,hlen,yQ,hi,hi1,hn,eL,oX,hq⟩:=hg
 obtain ⟨w,f1,f,f2,yP,ev,Vj,_⟩:=F.nh.focus FV
 have wt:=Vj
 simp only [cj] at wt
 obtain ⟨l,xs,gH,rfl,hl,rfl,hL⟩:=wt
 have Yk:l∈fp:=by rw [yP]; simp
 obtain ⟨_,hσ⟩:=cJ I hp
 obtain ⟨_,_,_,z1,rfl,v1,rfl,b1⟩:=I.sl i _ hi
 obtain ⟨p,hO,z2,hR⟩:=I.root hn
 have SV:p∈roots O:=aK.mpr (ik hO)
 obtain ⟨vs,hlk,Vu,hvs⟩:=hR
 have npl:p≠l:=fun z=>(F.lL l Yk).1 (by rw [← z]; exact SV)
 refine i8 (rD Sy Mt Mu cZ ho (bw he cO hs) c7 la c8 hs dP) JB pins s' σ H D J
  ⟨.ref M.a,.ref l,hσ,ev,.inl ⟨rfl,xs,fA.of hl⟩,v1,t1,p,ks,ts,z1,z2,hi1,At.bU hi1 b1,?_,fun a dx u H3 sm na ea au=>?_⟩
 · simp only [At]
   exact ⟨p,vs,rfl,hlk,⟨Vu,fun z=>nomatch z⟩,hvs.aX fun b hb=>nomatch hb⟩
 have I3f:=(I.same sm).forget (i:=n) (fun p hp=>absurd hp gK)
 have F3:=F.now I3f (bJ I)
 have I3:=I3f.rebase (Z:=zf M O H) rfl
 have hp3:(ρ.set n none)[M.k]?=some (some (.pin M.a s.t,false)):=by rw [rf (Ne.symm yQ)]; exact hp
 have acw:∀ e∈ρ.set n none,eX e:=fun e he=>by
  rcases Og he with z | z
  · exact oX e z
  · rw [z]; trivial
 have FN:cj X.K H3 ([p,a] ++ (roots (O.set n none) ++ (fp ++ M.Ox))) s (.ref M.a) fp:=(F.nh.more fun b hb=>by
  rcases cA.mp hb with z | z
  · simp only [cY,gK,or_false] at z
    rcases z with rfl | rfl
    · exact .inl (cq _ SV)
    · exact .inr na
  · rcases cA.mp z with z | z
    · exact .inl (cq _ (bF n b z))
    · exact .inl (bO _ z)).same sm
 have Qk:∀ b∈fp,H b≠none:=fun b hb=>by obtain ⟨u,e,_⟩:=F.nh.mut b hb; rw [e]; simp
 have hN:∀ b∈[p,a],b∉fp∧b∉roots (O.set n none)∧b∉M.Ox∧(b∈M.rH∨M.H0 b=none):=fun b hb=>by
  simp only [cY,gK,or_false] at hb
  rcases hb with rfl | rfl
  · refine ⟨fun z=>(F.lL _ z).1 SV,jQ I.nd hO,(I.own _ SV).2.1,?_⟩
    cases e:M.H0 b with
    | none=>exact .inr rfl
    | some o=>exact .inl (Tb fun n=>(F.kp b o e n).2 SV)
  · refine ⟨fun z=>Qk _ z na,fun z=>I.xZ _ (cq _ (bF n _ z)) na,fun z=>I.ox _ z na,?_⟩
    cases e:M.H0 b with
    | none=>exact .inr rfl
    | some o =>
      refine .inl (Tb fun n=>?_)
      have:=(F.kp b o e n).1
      rw [na] at this; cases this
 obtain ⟨w2,f',NC,hS,sub,nd,wr⟩:=F3.putN FN hN I3 hp3 acw FV
 rw [gU sm ev] at NC
 cases NC
 have A5:=hS
 simp only [cj] at A5
 obtain ⟨l',DP,KJ,e',MJ,rfl,Vk⟩:=A5
 cases e'
 have Yj:a≠l:=fun z=>Qk l Yk (by rw [← z]; exact na)
 have nap:a≠p:=fun z=>by rw [z,Vu] at na; cases na
 have nl:=jI.mp nd
 refine ⟨l,DP,.ref a,rfl,rfl,MJ,by rw [sizeLine_eq,Vk.length]; omega,?_⟩
 refine Fi.nx _ _ σ _ (wr (H':=upd H3 l (.lst (DP ++ [.ref a]))) (g:=l :: (KJ ++ [a,p])) (y:=.lst (ys ++ [.ins C [F1,F2] [.lf t1,.dk ks ts]])) (fun b o e n=>?_) ?_ (fun b hb=>?_) fun A' go=>?_) hq
 · rw [aA fun z=>n (by rw [z]; exact c6)]; exact e
 · refine jI.mpr ⟨fun z=>?_,x8.mpr ⟨nl.2,by simp [nap],fun x hx y hy z=>?_⟩⟩
   · rcases cA.mp z with z | z
     · exact nl.1 z
     · simp only [cY,gK,or_false] at z
       rcases z with z | z
       · exact Yj z.symm
       · exact npl z.symm
   · subst z
     have hxf:x∈fp:=sub x (eB _ hx)
     simp only [cY,gK,or_false] at hy
     rcases hy with rfl | rfl
     · exact Qk _ hxf na
     · exact (F.lL _ hxf).1 SV
 · rcases cY.mp hb with z | z
   · exact .inl (by rw [z]; exact c6)
   · rcases cA.mp z with z | z
     · exact .inl (eB _ z)
     · refine .inr (.inr ?_)
       simp only [cY,gK,or_false] at z ⊢
       exact z.symm
 · simp only [cj]
   refine ⟨l,DP ++ [.ref a],KJ ++ [a,p],rfl,aI,rfl,(Vk.map go fun b hb=>aA fun z=>?_).snoc ?_⟩
   · subst z; exact nl.1 hb
   · have hR':cC X.K (upd H3 l (.lst (DP ++ [.ref a]))) A' p (.dk ks ts):=cC.bU (t:=.dk ks ts) (A:=av (zf M O H) O) eL ⟨vs,hlk,Vu,hvs⟩ (by rw [aA npl,sm _ _ Vu,Vu]) fun t v hi q=>go t v (At.bU hi (q.same sm))
     obtain ⟨kc,acx,acy,acz⟩:=hR'
     simp only [cj,aZ]
     exact ⟨a,dx,[u,.ref p],[p],rfl,rfl,by rw [aA Yj]; exact ea,rfl,u,[.ref p],[],[p],rfl,rfl,⟨rfl,go t1 u (At.bU hi1 au)⟩,.ref p,[],[p],[],rfl,rfl,⟨p,kc,rfl,rfl,acx,acy,acz⟩,rfl,rfl⟩⟩
end
def nP (K:KFr) (n:Nat) (G:List T→S→(S→T→Prop)→Prop):Sp:=fun vs H Q _=>∃ (a:Addr) (Ox fp:List Addr) (s:S) (us:List T) (ws:List V) (q:S→T→Prop),vs = .ref a :: ws∧fp.Nodup∧cj K H (fp ++ Ox) s (.ref a) fp∧(∀ b∈fp,b∉Ox)∧(∀ b∈Ox,H b≠none) ∧
 us.length=n∧az K H Ox us ws∧G us s q ∧
 ∀ s' t,q s' t→∀ v H' fp',(∀ b o,H b=some o→b∉fp→H' b=some o)→fp'.Nodup→(∀ b∈fp',b∈fp∨H b=none)→(∀ b∈fp',b∉Ox)→cj K H' (fp' ++ Ox) s' (.ref a) fp'→bU t=true→At K H' [] t v→Q v H'
section
variable {P:Program} {w:World} {K:KFr} {mg:Str→Option Value} {base:Heap}
theorem Qn {x qual:Str} {st:Stmt} {f:Addr} {fd:FuncData} {N ps:List Str} {k n:Nat} {G:List T→S→(S→T→Prop)→Prop} (F:AE K x qual st f fd) (S:aC N ps (ah st)) (hn:n+1=ps.length) (hN:n+1≤N.length)
  (cb:∀ (bu:Value) (A:Around) (outer:List Env) (s:Shared) (H:Hp) (E:XK) (M:Mz),M.k=0→bz k (A.deeper (envOfC qual (ah st) s.heap.objs.size f bu))→∀ us s0 q,G us s0 q→us.length=n →
    ∃ g,FU (eG dI P w K mg base N qual (ah st) f bu A outer s H E).nZ M (bA st) g∧g { nx:=fun _ s'=>q s' .aT,rt:=fun _ s' r=>∃ t,r = .vw t∧bU t=true∧q s' t } (some (.pin M.a s0.t,false) :: (us.map (fun t=>some (t,false)) ++ List.replicate (N.length - (n+1)) none)) s0) :
  b_ P w K mg base dI (k+1) f fd ps (nP K n G):=by
 refine F.ok S (fun vs H Q E h=>?_) (fun bu A outer s H vs Q E hr h=>?_)
 · obtain ⟨a,Ox,fp,s,us,ws,q,rfl,_,_,_,_,hu,hA,_⟩:=h
   rw [vb,hA.length,hu]; exact hn
 · obtain ⟨a,Ox,fp,s0,us,ws,q,rfl,nd,nh,lL,ox,hu,hA,hG,kk⟩:=h
   obtain ⟨g,hg,hq⟩:=cb bu A outer s H E ⟨H,fp,Ox,a,0⟩ rfl hr us s0 q hG hu
   have view:At K H Ox s0.t (.ref a):=nh.view (fun b hb=>bO _ hb) lL
   have env:=i' (K:=K) (N:=N) (H:=H) (Ox:=Ox) (ts:=.pin a s0.t :: us) (vs:=.ref a :: ws) (by rw [vb,hu]; exact hN) ox (az.cons (by simp only [At]; exact ⟨trivial,view⟩) hA)
   have fin:∀ (ρ:En) (s':VT.S) (σ:St) (H':Hp) (O:List (Option Addr)) (fp':List Addr) (t:T) (v:V),Mf K ⟨H,fp,Ox,a,0⟩ O fp' s' H'→bU t=true→(∃ A,At K H' A t v)→q s' t→Q v H':=fun ρ s' σ H' O fp' t v F' hi ⟨A,av⟩ hq =>
    kk s' t hq v H' fp' (fun b o e n=>(F'.kp b o e n).1) F'.nd F'.fr (fun b hb=>(F'.lL b hb).2) (F'.nh.aX fun b hb=>bO _ hb) hi (At.bU hi av)
   refine ⟨_,hg.h,_,s0,_,⟨⟨List.replicate N.length none,fp,⟨?_,nd,fun b hb=>⟨by rw [cW]; simp,lL b hb⟩,fun b hb=>.inl hb,fun b o e _=>⟨e,by rw [cW]; simp⟩⟩,?_⟩,?_⟩,hq,⟨fun ρ s' σ H' S' z=>?_,fun ρ s' σ H' r v O fp' Of Hf F' dY R z=>?_,fun _ _ _ _ _ z=>z.elim,fun _ _ _ _ _ z=>z.elim⟩⟩
   · rw [cW]; exact nh
   · have e:=env.rebase rfl
     have ln:(T.pin a s0.t :: us).length=n+1:=by rw [vb,hu]
     rw [ln] at e
     exact e
   · rfl
   · obtain ⟨⟨O,fp',F',I'⟩,_⟩:=S'
     exact fin ρ s' σ H' O fp' .aT .aT F' rfl ⟨[],by simp only [At]⟩ z
   · obtain ⟨t,rfl,hi,z⟩:=z
     exact fin ρ s' σ H' O fp' t v (F'.now R.1 dY) hi ⟨_,R.2⟩ z
end
section
variable {X:Cx} {M:Mz} {es:List Expr} {pos:Pos}
def Vv (M:Mz) (n:Nat) (G:List T→S→(S→T→Prop)→Prop) (fa:FA):FM:=fun d ρ s=>(∀ e∈ρ,eX e)∧fa ρ fun us=>us.length=n∧G us s fun s' _=>d.nx (nk M ρ s') s'
theorem wu {K:KFr} {n:Nat} {G:List T→S→(S→T→Prop)→Prop} {O:List (Option Addr)} {fp:List Addr} {s:S} {ρ:En} {σ:St} {H:Hp} {us:List T} {ws:List V} {q:S→T→Prop} {Q:VK} {E:XK} (F:Mf K M O fp s H) (I:ax K (zf M O H) [] O ρ σ H) (hp:ρ[M.k]?=some (some (.pin M.a s.t,false))) (oX:∀ e∈ρ,eX e)
  (hu:us.length=n) (ha:az K H (roots O ++ M.Ox) us ws) (hG:G us s q) (k:∀ s' t,q s' t→∀ v H',kx K M (nk M ρ s') s' σ H'→bU t=true→At K H' [] t v→Q v H'):nP K n G (.ref M.a :: ws) H Q E:=by
 obtain ⟨ho,hσ⟩:=cJ I hp
 refine ⟨M.a,roots O ++ M.Ox,fp,s,us,ws,q,rfl,F.nd,F.nh.aX fun b hb=>?_,fun b hb z=>?_,I.xZ,hu,ha,hG,fun s' t hq v H' fp' fr nd each lL nh hi av=>?_⟩
 · rcases cA.mp hb with z | z
   · exact bO _ (cq _ z)
   · rcases cA.mp z with z | z
     · exact cq _ z
     · exact bO _ (bO _ z)
 · rcases cA.mp z with z | z
   · exact (F.lL b hb).1 z
   · exact (F.lL b hb).2 z
 · refine k s' t hq v H' (F.write I oX (by rw [hp]; simp) ho hσ fr (fp':=fp') (nh.aX fun b hb=>?_) nd (fun b hb=>⟨fun z=>lL b hb (cq _ z),fun z=>lL b hb (bO _ z)⟩) fun b hb=>?_) hi av
   · rcases cA.mp hb with z | z
     · exact bO _ (cq _ z)
     · rcases cA.mp z with z | z
       · exact cq _ z
       · exact bO _ (bO _ z)
   · rcases each b hb with z | z
     · exact F.fr b z
     · cases e:M.H0 b with
       | none=>exact .inr rfl
       | some o =>
         refine .inl (Tb fun n=>?_)
         rw [(F.kp b o e n).1] at z
         cases z
theorem jb {n k:Nat} {G:List T→S→(S→T→Prop)→Prop} {fa:FA} {x y:Str} {f:Addr} {fd:FuncData} {ps:List Str} {p p1 aW:Pos} (Fo:b_ X.prog X.w X.K X.mg X.base dI k f fd ps (nP X.K n G)) (hr:bz k X.A) (hg:Gl X x) (hm:X.mg x=some (.ref f)) (hk:PySem.W.keepIn X.K (.ref f)=true) (hb:Binds X.K fd ps [])
  (ha:∀ H0,VA X ⟨H0,[],M.Ox⟩ es fa) (hN:X.N[M.k]?=some y) (hv:j5 X.env.scope y:=by first | exact Or.inl rfl | exact Or.inr (Or.inl rfl) | exact Or.inr (Or.inr rfl)) (hd:ic y:=by decide) (gn:va y:=by decide)
  (qm:ic x:=by decide) (he:starEach (.Name y p1 :: es) X.env=(false,eval (.Name y p1) X.env) :: starEach es X.env:=by rfl) (jy:(backTo aW (starEach es X.env)).any (·.1)=false:=by rfl)
  (hs:swapsWith (.Call (.Name x p) (.Name y p1 :: es) [] aW) none pos.line X.env=pure false:=by rfl) :
  MS X M (.Expr (.Call (.Name x p) (.Name y p1 :: es) [] aW) pos) (Vv M n G fa):=⟨fun pins s' σ H D J ⟨ρ,s,d,⟨⟨O,fp,F,I⟩,hp⟩,KO,Fi⟩=>by
 obtain ⟨oX,KO⟩:=KO
 obtain ⟨_,hσ⟩:=cJ I hp
 refine i8 (j9 Fo hr hg hm hk hb .nil jz (bw (bT hN hv hd gn) (ha (iC H (roots O)) []) he) qm he jy) hs pins s' σ H D J ⟨.ref M.a,hσ,ρ,O,_,I,KO,fun us BV ws H1 s1 a1=>?_⟩
 obtain ⟨hu,hG⟩:=BV
 have I0:=I.same s1
 have F1:=F.now I0 (bJ I)
 have I1:=I0.rebase (Z:=zf M O H) rfl
 rw [IC]
 exact wu F1 I1 hp oX hu a1 hG fun s2 t hq v H' S' _ _=>Fi.nx _ _ σ H' S' hq⟩
end
section
variable {X:Cx} {M:Mz} {g:FM} {pos:Pos}
def Qo (fc:FB) (g:FM):FM:=fun d ρ s=>∃ Pv:Nat→En→S→Prop,(∃ m,Pv m ρ s)∧∀ m ρ s,Pv m ρ s→fc ρ fun b=>if b=true then g { d with nx:=fun ρ' s'=>∃ m',m' < m∧Pv m' ρ' s',ct:=fun ρ' s'=>∃ m',m' < m∧Pv m' ρ' s',bk:=d.nx } ρ s else d.nx ρ s
theorem F0 {c:Expr} {body:List Stmt} {fc:FB} (hp:PassesOwn (model X.prog X.w) X.A X.env X.xe) (hc:∀ H0,VC X ⟨H0,[],M.Ox⟩ c fc) (hb:FU X M body g):MS X M (.While c body [] pos) (Qo fc g):=⟨fun pins s' σ H D J ⟨ρ,s,d,S0,hg,Fi⟩=>by
 obtain ⟨Pv,⟨m0,p0⟩,step⟩:=hg
 refine Ee (tc:=fun σ H Q=>∃ H0,lB X ⟨H0,[],M.Ox⟩ [] fc σ H Q) hp (fun pins s σ H Q I ⟨H0,h⟩=>(hc H0 []) pins s σ H Q I h) hb.h pins s' σ H D J ⟨fun m σ H=>∃ ρ s,kx X.K M ρ s σ H∧Pv m ρ s,⟨m0,ρ,s,S0,p0⟩,?_⟩
 rintro m σ1 H1 ⟨ρ1,s1,⟨⟨O,fp,F,I⟩,hp1⟩,p1⟩
 refine ⟨iC H1 (roots O),ρ1,O,_,I,step m ρ1 s1 p1,fun b hb H2 s2=>?_⟩
 have St:kx X.K M ρ1 s1 σ1 H2:=kx.of F (bJ I) (I.same s2) hp1
 cases b with
 | true =>
   rw [if_pos rfl] at hb
   dsimp only
   rw [if_pos rfl]
   refine ⟨fun σ' H'=>∃ m',m' < m∧∃ ρ s,kx X.K M ρ s σ' H'∧Pv m' ρ s,fun σ' H' z=>z,ρ1,s1,_,St,hb,?_⟩
   exact ⟨fun ρ s σ H I ⟨m',hm,p⟩=>⟨m',hm,ρ,s,I,p⟩,Fi.rt,Fi.nx,fun ρ s σ H I ⟨m',hm,p⟩=>⟨m',hm,ρ,s,I,p⟩⟩
 | false =>
   rw [if_neg eC] at hb
   dsimp only
   rw [if_neg eC]
   exact Fi.nx ρ1 s1 σ1 H2 St hb⟩
end
section
variable {X:Cx} {Z:Zc} {k n:Nat} {x:Str} {p pos:Pos} {e:Expr} {es:List Expr} {g:FA}
abbrev GV:=List T→(Rt→Prop)→Prop
end
section
variable {X:Cx} {M:Mz} {fe e:Expr} {es:List Expr} {pos:Pos}
abbrev GM:=List T→S→(S→T→Prop)→Prop
theorem F4 {n k:Nat} {Fn:Addr→GM→Prop} {tf:TE} {t:TA} (C:∀ f G,Fn f G→PySem.W.keepIn X.K (.ref f)=true∧∃ fd ps,Binds X.K fd ps []∧b_ X.prog X.w X.K X.mg X.base dI k f fd ps (nP X.K n G)) (hr:bz k X.A) (hf:PE X fe tf) (ha:PA X (e :: es) t)
  (he:starEach (e :: es) X.env=(false,eval e X.env) :: starEach es X.env:=by rfl) (jy:(backTo pos (starEach es X.env)).any (·.1)=false:=by rfl)
  (ht:eval (.Call fe (e :: es) [] pos) X.env=(do
    let f ← eval fe X.env
    callWith pos f [] (backTo pos (starEach (e :: es) X.env)) (backToKw pos (keywordEach [] X.env))):=by rfl) :
  PE X (.Call fe (e :: es) [] pos) (fun σ H Q=>tf σ H fun v H1=>∃ f G,v = .ref f∧Fn f G∧t σ H1 fun vs H2=>nP X.K n G (vs ++ []) H2 Q E0):=by
 intro pins s σ H Q I h
 rw [ht]
 refine wpAny_bind (cm (hf pins s σ H _ I h) fun u s1 ⟨v,H1,I1,r,f,G,ev,Qp,q1⟩=>?_)
 subst ev
 obtain rfl:u=Value.ref f:=r
 obtain ⟨hk,fd,ps,hb,F⟩:=C f G Qp
 refine XI (h₀:=X.base) I1.ok.mod.SG hk (cm (ha pos pins s1 σ H1 _ I1 q1) fun us s2 ⟨vs,H2,I2,r2,q2⟩=>⟨I2.qk,?_⟩) he jy
 exact yr F hr hb .nil jz I2 r2 q2
def Qq (M:Mz) (n:Nat) (Fn:Addr→GM→Prop) (ff:FE) (fa:FA):FM:=fun d ρ s=>(∀ e∈ρ,eX e)∧ff ρ fun t=>∃ f G,t = .ob f∧Fn f G∧fa ρ fun us=>us.length=n∧G us s fun s' _=>d.nx (nk M ρ s') s'
theorem F5 {n k:Nat} {Fn:Addr→GM→Prop} {ff:FE} {fa:FA} {y:Str} {p1 aW:Pos} (C:∀ f G,Fn f G→PySem.W.keepIn X.K (.ref f)=true∧∃ fd ps,Binds X.K fd ps []∧b_ X.prog X.w X.K X.mg X.base dI k f fd ps (nP X.K n G)) (hr:bz k X.A)
  (hf:∀ H0,VE X ⟨H0,[],M.Ox⟩ fe ff) (ha:∀ H0,VA X ⟨H0,[],M.Ox⟩ es fa) (hN:X.N[M.k]?=some y) (hv:j5 X.env.scope y:=by first | exact Or.inl rfl | exact Or.inr (Or.inl rfl) | exact Or.inr (Or.inr rfl)) (hd:ic y:=by decide) (gn:va y:=by decide)
  (he:starEach (.Name y p1 :: es) X.env=(false,eval (.Name y p1) X.env) :: starEach es X.env:=by rfl) (jy:(backTo aW (starEach es X.env)).any (·.1)=false:=by rfl)
  (ht:eval (.Call fe (.Name y p1 :: es) [] aW) X.env=(do
    let f ← eval fe X.env
    callWith aW f [] (backTo aW (starEach (.Name y p1 :: es) X.env)) (backToKw aW (keywordEach [] X.env))):=by rfl)
  (hs:swapsWith (.Call fe (.Name y p1 :: es) [] aW) none pos.line X.env=pure false:=by rfl) :
  MS X M (.Expr (.Call fe (.Name y p1 :: es) [] aW) pos) (Qq M n Fn ff fa):=⟨fun pins s' σ H D J ⟨ρ,s,d,⟨⟨O,fp,F,I⟩,hp⟩,KO,Fi⟩=>by
 obtain ⟨oX,KO⟩:=KO
 obtain ⟨_,hσ⟩:=cJ I hp
 refine i8 (F4 C hr (hf (iC H (roots O)) []) (bw (bT hN hv hd gn) (ha (iC H (roots O)) []) he) he jy ht) hs pins s' σ H D J ⟨ρ,O,_,I,KO,fun t htt v H0 s0 a0=>?_⟩
 obtain ⟨f,G,rfl,Qp,KO⟩:=htt
 simp only [At] at a0
 refine ⟨f,G,a0,Qp,.ref M.a,hσ,ρ,O,_,I.same s0,KO,fun us BV ws H1 s1 a1=>?_⟩
 obtain ⟨hu,hG⟩:=BV
 have I0:=(I.same s0).same s1
 have F1:=F.now I0 (bJ I)
 have I1:=I0.rebase (Z:=zf M O H) rfl
 rw [IC]
 exact wu F1 I1 hp oX hu a1 hG fun s2 t hq v H' S' _ _=>Fi.nx _ _ σ H' S' hq⟩
end
structure qF (K:KFr) (H0:Hp) (Ox:List Addr) (x C:Addr) (ns:List Str) (xs:List S) (H:Hp):Prop where
 ex:∃ fp,cj K H (fp ++ Ox) (.ins C ns xs) (.ref x) fp∧fp.Nodup∧∀ b∈fp,b=x∨H0 b=none
 nx:x∉Ox
 ox:∀ b∈Ox,H0 b≠none
 fr:∀ b o,H0 b=some o→b≠x→H b=some o
theorem wx (f:Str) (y:V):∀ (ns:List Str) (vs:List V),ns.length=vs.length→f∉ns→dv f y (ns.zip vs)=(ns ++ [f]).zip (vs ++ [y])
 | [],[],_,_=>rfl
 | [],v :: vs,h,_=>by simp at h
 | n :: ns,[],h,_=>by simp at h
 | n :: ns,v :: vs,h,q=>by
   rw [Mx]
   show (if n=f then (n,y) :: ns.zip vs else (n,v) :: dv f y (ns.zip vs))=_
   rw [if_neg (fun e=>q (by rw [e]; exact c6)),wx f y ns vs (by simpa using h) (fun z=>q (eB _ z))]
   rfl
section
variable {K:KFr} {H0 H:Hp} {Ox:List Addr} {x C:Addr} {ns:List Str} {xs:List S}
theorem qF.at (I:qF K H0 Ox x C ns xs H):∃ dx fs,H x=some (.ins C dx fs)∧fs.length=xs.length:=by
 obtain ⟨fp,h,_⟩:=I.ex
 simp only [cj] at h
 obtain ⟨a,dx,vs,gH,e,hl,ha,_,hL⟩:=h
 cases e
 exact ⟨dx,_,ha,by rw [Oo,hl,MH,hL.length]⟩
theorem qF.add {H1:Hp} {f:Str} {z:S} {v:V} {g:List Addr} {dx:Addr} {fs:List (Str×V)} (I:qF K H0 Ox x C ns xs H) (sm:aN H H1) (hf:f∉ns) (hx:H1 x=some (.ins C dx fs)) (hg:∀ b∈g,H b=none) (nd:g.Nodup)
  (hz:∀ fp:List Addr,(∀ b∈fp,b=x∨H0 b=none)→x∈fp→(∀ t w,At K H (fp ++ Ox) t w→At K (upd H1 x (.ins C dx (dv f v fs))) ((fp ++ g) ++ Ox) t w)→cj K (upd H1 x (.ins C dx (dv f v fs))) ((fp ++ g) ++ Ox) z v g) :
  qF K H0 Ox x C (ns ++ [f]) (xs ++ [z]) (upd H1 x (.ins C dx (dv f v fs))):=by
 obtain ⟨fp,h,n,each⟩:=I.ex
 have h':=h
 simp only [cj] at h'
 obtain ⟨a,dx',vs,gH,e,hl,ha,rfl,hL⟩:=h'
 cases e
 have hx2:=sm _ _ ha
 rw [hx] at hx2
 cases hx2
 have old:∀ b∈x :: gH,H b≠none:=fun b hb=>by obtain ⟨u,e,_⟩:=h.mut b hb; rw [e]; simp
 have go:∀ t w,At K H ((x :: gH) ++ Ox) t w→At K (upd H1 x (.ins C dx (dv f v (ns.zip vs)))) (((x :: gH) ++ g) ++ Ox) t w:=fun t w q=>by
  have q1:At K H (((x :: gH) ++ g) ++ Ox) t w:=q.more fun b hb=>by
   rcases cA.mp hb with y | y
   · rcases cA.mp y with y | y
     · exact .inl (cq _ y)
     · exact .inr (hg b y)
   · exact .inl (bO _ y)
  exact (q1.same sm).wrote (cq _ (cq _ c6)) hx rfl
 have z1:=hz (x :: gH) each c6 go
 have nxf:x∉gH:=(jI.mp n).1
 have rest:aZ K (upd H1 x (.ins C dx (dv f v (ns.zip vs)))) (((x :: gH) ++ g) ++ Ox) xs vs gH:=hL.map go fun b hb=>by
  obtain ⟨u,e,_⟩:=aZ.mut hL b hb
  rw [aA (fun y=>nxf (by rw [← y]; exact hb)),e]
  exact sm _ _ e
 refine ⟨⟨(x :: gH) ++ g,?_,?_,fun b hb=>?_⟩,I.nx,I.ox,fun b o e ne=>?_⟩
 · simp only [cj]
   refine ⟨x,dx,vs ++ [v],gH ++ g,rfl,by simp [hl],?_,rfl,rest.snoc z1⟩
   rw [aI,wx f v ns vs hl hf]
 · exact x8.mpr ⟨n,nd,fun a ha b hb e=>by subst e; exact old a ha (hg a hb)⟩
 · rcases cA.mp hb with y | y
   · exact each b y
   · right
     cases e:H0 b with
     | none=>rfl
     | some o =>
       exfalso
       have nb:b≠x:=fun z=>old x c6 (by rw [← z]; exact hg b y)
       have:=I.fr b o e nb
       rw [hg b y] at this; cases this
 · rw [aA ne]; exact sm _ _ (I.fr b o e ne)
theorem qF.lf {H1:Hp} {f:Str} {t:T} {v:V} {dx:Addr} {fs:List (Str×V)} (I:qF K H0 Ox x C ns xs H) (hf:f∉ns) (hi:bU t=true) (a:At K H [] t v) (hx:H x=some (.ins C dx fs)):qF K H0 Ox x C (ns ++ [f]) (xs ++ [.lf t]) (upd H x (.ins C dx (dv f v fs))) :=
 I.add (z:=.lf t) (g:=[]) (fun _ _ e=>e) hf hx (fun b hb=>nomatch hb) MD fun fp _ _ go=>by
  simp only [cj]
  exact ⟨trivial,go t v (At.bU hi a)⟩
theorem qF.lst {f:Str} {p dx:Addr} {fs:List (Str×V)} (I:qF K H0 Ox x C ns xs H) (hf:f∉ns) (hp:H p=none) (hx:upd H p (.lst []) x=some (.ins C dx fs)):qF K H0 Ox x C (ns ++ [f]) (xs ++ [.lst []]) (upd (upd H p (.lst [])) x (.ins C dx (dv f (.ref p) fs))) :=
 I.add (z:=.lst []) (g:=[p]) (aG hp) hf hx (fun b hb=>by rw [kZ.mp hb]; exact hp) (by simp) fun fp _ _ go=>by
  have ne:p≠x:=fun z=>by rw [z,aI] at hx; cases hx
  simp only [cj,aZ]
  exact ⟨p,[],[],rfl,by rw [aA ne,aI],rfl,rfl,rfl⟩
theorem qF.dk {f:Str} {p dx:Addr} {fs:List (Str×V)} (I:qF K H0 Ox x C ns xs H) (hf:f∉ns) (hp:H p=none) (hx:upd H p (.dK []) x=some (.ins C dx fs)):qF K H0 Ox x C (ns ++ [f]) (xs ++ [.dk [] []]) (upd (upd H p (.dK [])) x (.ins C dx (dv f (.ref p) fs))) :=
 I.add (z:=.dk [] []) (g:=[p]) (aG hp) hf hx (fun b hb=>by rw [kZ.mp hb]; exact hp) (by simp) fun fp _ _ go=>by
  have ne:p≠x:=fun z=>by rw [z,aI] at hx; cases hx
  simp only [cj]
  exact ⟨p,[],rfl,rfl,rfl,by rw [aA ne,aI]; rfl,az.nil⟩
theorem qF.first {H1:Hp} {f:Str} {t:T} {v:V} {dx:Addr} (nx:x∉Ox) (ox:∀ b∈Ox,H b≠none) (hx:H x=some (.ins C dx [])) (sm:aN H H1) (a:At K H1 (x :: Ox) t v):qF K H Ox x C [f] [.lf t] (upd H1 x (.ins C dx (dv f v []))):=by
 refine ⟨⟨[x],?_,by simp,fun b hb=>.inl (kZ.mp hb)⟩,nx,ox,fun b o e ne=>by rw [aA ne]; exact sm _ _ e⟩
 simp only [cj,aZ]
 exact ⟨x,dx,[v],[],rfl,rfl,aI,rfl,v,[],[],[],rfl,rfl,⟨rfl,a.wrote c6 (sm _ _ hx) rfl⟩,rfl,rfl⟩
end
def mN:List Str:=["layout","most","poke","frames","cells","counts","doings","place","ended"]
def wy (L t2 t3:T):List S:=[.lf L,.lf t2,.lf t3,.lst [],.dk [] [],.dk [] [],.lst [],.lf .aT,.lf .aT]
theorem Qr (K:KFr) (H:Hp) {Ox:List Addr} (h:∀ a∈Ox,H a≠none):ax K ⟨H,[],Ox⟩ [] [] [] [] H:=⟨rfl,rfl,fun i e h=>by simp at h,MD,fun a h=>absurd h gK,fun p hp=>absurd hp gK,h,fun b o e _=>e,fun p hp=>absurd hp gK⟩
section
variable {X:Cx} {C CL:Addr}
theorem Cu {GL:List T→(T→Prop)→Prop} {H:Hp} {Ox:List Addr} {pr:T} {vp:V} {q:T→Prop} {Q:VK} (ox:∀ b∈Ox,H b≠none) (a:At X.K H Ox pr vp) (hG:GL [pr] q) (k:∀ L,q L→∀ v H',aN H H'→At X.K H' Ox L v→Q v H') :
  ∀ x dx,H x=none→H dx=none→dx≠x→Ny X.K CL 1 GL (.ref x :: ([vp] ++ [])) (upd (upd H dx (.own x)) x (.ins CL dx [])) (fun v H2=>v = .aT∧Q (.ref x) H2) E0 :=
 A0 (X:=X) (Z:=⟨H,[],Ox⟩) (q:=fun r=>∃ L,r = .fr L∧q L) (Qr X.K H ox) (az.cons a az.nil) rfl (by
  have e:q=fun u=>∃ L,Rt.fr u=Rt.fr L∧q L:=by
   funext u
   exact propext ⟨fun h=>⟨u,rfl,h⟩,fun ⟨L,e,h⟩=>by cases e; exact h⟩
  rw [← e]; exact hG) fun r hr v H' sm z=>by
  obtain ⟨L,rfl,hL⟩:=hr
  obtain ⟨b,rfl,_,rt,n0,nO⟩:=z
  refine k L hL _ H' sm ((rt.aX fun c hc=>?_).at nO)
  exact bO _ (eB _ hc)
def acA (K:KFr) (GL:List T→(T→Prop)→Prop):TE:=fun σ H Q=>∃ vp pr Ox q,σ[1]?=some (some vp)∧(∀ b∈Ox,H b≠none)∧At K H Ox pr vp∧GL [pr] q∧∀ L,q L→∀ v H',aN H H'→At K H' Ox L v→Q v H'
theorem Qs {kL:Nat} {fL:Addr} {Vw:FuncData} {Vx:List Str} {GL:List T→(T→Prop)→Prop} {u1 u2 u3:Pos} (ML:Mk X.K CL fL) (FL:b_ X.prog X.w X.K X.mg X.base dI kL fL Vw Vx (Ny X.K CL 1 GL)) (rL:bz (kL+1) X.A) (gL:Gl X "Layout") (mL:X.mg "Layout" = some (.ref CL)) (bL:Binds X.K Vw Vx [])
  (h1:X.N[1]?=some ("program" : Str)) (v1:j5 X.env.scope "program") (s1:starEach [.Name "program" u2] X.env=(false,eval (.Name "program" u2) X.env) :: starEach [] X.env) (s2:(backTo u3 (starEach [] X.env)).any (·.1)=false):PE X (.Call (.Name "Layout" u1) [.Name "program" u2] [] u3) (acA X.K GL) :=
 PE.weak (sL ML FL rL gL mL bL .nil jz (bw (bT h1 v1 (by decide) (by decide)) cO s1) (by decide) s1 s2) fun σ H Q ⟨vp,pr,Ox,q,e1,ox,ap,hG,k⟩=>⟨vp,e1,Cu (X:=X) (Q:=Q) ox ap hG k⟩
def Vy (X:Cx) (C:Addr) (GL:List T→(T→Prop)→Prop):TS:=fun D σ H=>∃ x dx Ox pr vp t2 v2 t3 v3 q,σ[0]?=some (some (.ref x))∧σ[1]?=some (some vp)∧σ[2]?=some (some v2)∧σ[3]?=some (some v3)∧H x=some (.ins C dx [])∧x∉Ox∧(∀ b∈Ox,H b≠none) ∧
 At X.K H (x :: Ox) pr vp∧bU t2=true∧At X.K H [] t2 v2∧bU t3=true∧At X.K H [] t3 v3∧GL [pr] q∧∀ L,q L→∀ H',qF X.K H Ox x C mN (wy L t2 t3) H'→D.nx σ H'
theorem iE {α:Type} {fs:List α} {n m:Nat} (h:fs.length=n) (h2:n < 1000):fs.length < 1000:=by omega
theorem F6 {kL:Nat} {fL:Addr} {Vw:FuncData} {Vx:List Str} {GL:List T→(T→Prop)→Prop} (ML:Mk X.K CL fL) (FL:b_ X.prog X.w X.K X.mg X.base dI kL fL Vw Vx (Ny X.K CL 1 GL)) (rL:bz (kL+1) X.A) (gL:Gl X "Layout") (mL:X.mg "Layout" = some (.ref CL)) (bL:Binds X.K Vw Vx [])
  (cl:yi X.K C) (n1:a_ X.K C "layout") (n2:a_ X.K C "most") (n3:a_ X.K C "poke") (n4:a_ X.K C "frames") (n5:a_ X.K C "cells") (n6:a_ X.K C "counts") (n7:a_ X.K C "doings") (n8:a_ X.K C "place") (n9:a_ X.K C "ended")
  {p1 p2 p3 p4 p5 p6 p7 p8 p9 q1 q2 q3 q4 q5 q6 q7 q8 q9 r1 r2 r3 r4 r5 r6 r7 r8 r9 u1 u2 u3 u4 u5 u6 u7 u8 u9 u10 u11:Pos} {k8 k9}
  (h0:X.N[0]?=some ("self" : Str):=by rfl) (h1:X.N[1]?=some ("program" : Str):=by rfl) (h2:X.N[2]?=some ("most" : Str):=by rfl) (h3:X.N[3]?=some ("poke" : Str):=by rfl)
  (v0:j5 X.env.scope "self":=by exact Or.inl rfl) (v1:j5 X.env.scope "program":=by exact Or.inl rfl) (v2:j5 X.env.scope "most":=by exact Or.inl rfl) (v3:j5 X.env.scope "poke":=by exact Or.inl rfl)
  (s1:starEach [.Name "program" u2] X.env=(false,eval (.Name "program" u2) X.env) :: starEach [] X.env:=by rfl) (s2:(backTo u3 (starEach [] X.env)).any (·.1)=false:=by rfl)
  (w1:swapsWith (.Call (.Name "Layout" u1) [.Name "program" u2] [] u3) (some (.Attribute (.Name "self" p1) "layout" q1)) r1.line X.env=pure false:=by rfl)
  (w2:swapsWith (.Name "most" u4) (some (.Attribute (.Name "self" p2) "most" q2)) r2.line X.env=pure false:=by rfl) (w3:swapsWith (.Name "poke" u5) (some (.Attribute (.Name "self" p3) "poke" q3)) r3.line X.env=pure false:=by rfl)
  (w4:swapsWith (.List [] u6) (some (.Attribute (.Name "self" p4) "frames" q4)) r4.line X.env=pure false:=by rfl) (w5:swapsWith (.Dict [] [] u7) (some (.Attribute (.Name "self" p5) "cells" q5)) r5.line X.env=pure false:=by rfl)
  (w6:swapsWith (.Dict [] [] u8) (some (.Attribute (.Name "self" p6) "counts" q6)) r6.line X.env=pure false:=by rfl) (w7:swapsWith (.List [] u9) (some (.Attribute (.Name "self" p7) "doings" q7)) r7.line X.env=pure false:=by rfl)
  (w8:swapsWith (.Constant .none k8 u10) (some (.Attribute (.Name "self" p8) "place" q8)) r8.line X.env=pure false:=by rfl) (w9:swapsWith (.Constant .none k9 u11) (some (.Attribute (.Name "self" p9) "ended" q9)) r9.line X.env=pure false:=by rfl) :
  gG X [.Assign [.Attribute (.Name "self" p1) "layout" q1] (.Call (.Name "Layout" u1) [.Name "program" u2] [] u3) r1,.Assign [.Attribute (.Name "self" p2) "most" q2] (.Name "most" u4) r2,.Assign [.Attribute (.Name "self" p3) "poke" q3] (.Name "poke" u5) r3,
   .Assign [.Attribute (.Name "self" p4) "frames" q4] (.List [] u6) r4,.Assign [.Attribute (.Name "self" p5) "cells" q5] (.Dict [] [] u7) r5,.Assign [.Attribute (.Name "self" p6) "counts" q6] (.Dict [] [] u8) r6,
   .Assign [.Attribute (.Name "self" p7) "doings" q7] (.List [] u9) r7,.Assign [.Attribute (.Name "self" p8) "place" q8] (.Constant .none k8 u10) r8,.Assign [.Attribute (.Name "self" p9) "ended" q9] (.Constant .none k9 u11) r9] (Vy X C GL) :=
 have Sv:∀ {p:Pos},PE X (.Name "self" p) (Tr 0):=fun {p}=>bT (X:=X) h0 v0 (by decide) (by decide)
 gG.h_ (bR (eQ Sv (Qs ML FL rL gL mL bL h1 v1 s1 s2) w1) (bR (eQ Sv (bT h2 v2 (by decide) (by decide)) w2) (bR (eQ Sv (bT h3 v3 (by decide) (by decide)) w3)
  (bR (eQ Sv (yp cO) w4) (bR (eQ Sv oS w5) (bR (eQ Sv oS w6) (bR (eQ Sv (yp cO) w7) (bR (eQ Sv yc w8) (i7 (eQ Sv yc w9)))))))))) fun D σ H h=>by
  obtain ⟨x,dx,Ox,pr,vp,t2,v2',t3,v3',q,e0,e1,e2,e3,hx,nx,ox,ap,i2,a2,i3,a3,hG,kk⟩:=h
  have ox':∀ b∈x :: Ox,H b≠none:=fun b hb=>by
   rcases cY.mp hb with z | z
   · rw [z,hx]; simp
   · exact ox b z
  have ND:∀ {H':Hp} {ns:List Str} {xs:List S},qF X.K H Ox x C ns xs H'→∀ {t:T} {v:V},bU t=true→At X.K H [] t v→At X.K H' [] t v:=fun {H' ns xs} I {t v} hi a=>At.bU hi ((At.bU (O':=[x]) hi a).frame (fun b hb=>⟨.ins C dx [],by rw [kZ.mp hb]; exact hx,rfl⟩) fun b o e n=>I.fr b o e (fun z=>n (by rw [z]; exact c6)))
  refine ⟨vp,pr,x :: Ox,q,e1,ox',ap,hG,fun L hL v H1 sm aL=>?_⟩
  refine ⟨.ref x,e0,x,C,dx,[],rfl,sm _ _ hx,cl,n1,by decide,?_⟩
  have I1:qF X.K H Ox x C ["layout"] [.lf L] _:=qF.first (f:="layout") nx ox hx sm aL
  obtain ⟨d1,f1,g1,l1⟩:=I1.at
  refine ⟨v2',e2,.ref x,e0,x,C,d1,f1,rfl,g1,cl,n2,iE (n:=1) (m:=0) l1 (by decide),?_⟩
  have I2:=I1.lf (H1:=H) (f:="most") (by decide) i2 (ND I1 i2 a2) g1
  obtain ⟨d2,f2,g2,l2⟩:=I2.at
  refine ⟨v3',e3,.ref x,e0,x,C,d2,f2,rfl,g2,cl,n3,iE (n:=2) (m:=0) l2 (by decide),?_⟩
  have I3:=I2.lf (H1:=H) (f:="poke") (by decide) i3 (ND I2 i3 a3) g2
  refine ⟨jw _,fun p4 Vz=>?_⟩
  obtain ⟨d3,f3,g3,l3⟩:=I3.at
  refine ⟨.ref x,e0,x,C,d3,f3,rfl,aG Vz _ _ g3,cl,n4,iE (n:=3) (m:=0) l3 (by decide),?_⟩
  have I4:=I3.lst (f:="frames") (by decide) Vz (aG Vz _ _ g3)
  intro p5 hp5
  obtain ⟨d4,f4,g4,l4⟩:=I4.at
  refine ⟨.ref x,e0,x,C,d4,f4,rfl,aG hp5 _ _ g4,cl,n5,iE (n:=4) (m:=0) l4 (by decide),?_⟩
  have I5:=I4.dk (f:="cells") (by decide) hp5 (aG hp5 _ _ g4)
  intro p6 hp6
  obtain ⟨d5,f5,g5,l5⟩:=I5.at
  refine ⟨.ref x,e0,x,C,d5,f5,rfl,aG hp6 _ _ g5,cl,n6,iE (n:=5) (m:=0) l5 (by decide),?_⟩
  have I6:=I5.dk (f:="counts") (by decide) hp6 (aG hp6 _ _ g5)
  refine ⟨jw _,fun p7 hp7=>?_⟩
  obtain ⟨d6,f6,g6,l6⟩:=I6.at
  refine ⟨.ref x,e0,x,C,d6,f6,rfl,aG hp7 _ _ g6,cl,n7,iE (n:=6) (m:=0) l6 (by decide),?_⟩
  have I7:=I6.lst (f:="doings") (by decide) hp7 (aG hp7 _ _ g6)
  obtain ⟨d7,f7,g7,l7⟩:=I7.at
  refine ⟨.ref x,e0,x,C,d7,f7,rfl,g7,cl,n8,iE (n:=7) (m:=0) l7 (by decide),?_⟩
  have I8:=I7.lf (H1:=H) (f:="place") (t:=.aT) (v:=.aT) (by decide) rfl (by simp only [At]) g7
  obtain ⟨d8,f8,g8,l8⟩:=I8.at
  refine ⟨.ref x,e0,x,C,d8,f8,rfl,g8,cl,n9,iE (n:=8) (m:=0) l8 (by decide),?_⟩
  exact kk L hL _ (I8.lf (H1:=H) (f:="ended") (t:=.aT) (v:=.aT) (by decide) rfl (by simp only [At]) g8)
def spK (K:KFr) (C:Addr) (GL:List T→(T→Prop)→Prop):Sp:=fun vs H Q _=>∃ x dx Ox pr vp t2 v2 t3 v3 q,vs=[.ref x,vp,v2,v3]∧H x=some (.ins C dx [])∧x∉Ox∧(∀ b∈Ox,H b≠none) ∧
 At K H (x :: Ox) pr vp∧bU t2=true∧At K H [] t2 v2∧bU t3=true∧At K H [] t3 v3∧GL [pr] q∧∀ L,q L→∀ H',qF K H Ox x C mN (wy L t2 t3) H'→Q .aT H'
end
section
variable {P:Program} {w:World} {K:KFr} {mg:Str→Option Value} {base:Heap}
theorem fnK {qual:Str} {st:Stmt} {f C:Addr} {fd:FuncData} {N:List Str} {k:Nat} {GL:List T→(T→Prop)→Prop} (F:AE K "__init__" qual st f fd) (S:aC N ["self","program","most","poke"] (ah st)) (hN:N.length=4)
  (cb:∀ (bu:Value) (A:Around) (outer:List Env) (s:Shared) (H:Hp) (E:XK),bz k (A.deeper (envOfC qual (ah st) s.heap.objs.size f bu))→gG (eG dI P w K mg base N qual (ah st) f bu A outer s H E).nZ (bA st) (Vy (eG dI P w K mg base N qual (ah st) f bu A outer s H E).nZ C GL)) :
  b_ P w K mg base dI (k+1) f fd ["self","program","most","poke"] (spK K C GL):=by
 refine F.ok S (fun vs H Q E h=>?_) (fun bu A outer s H vs Q E hr h=>?_)
 · obtain ⟨x,dx,Ox,pr,vp,t2,v2,t3,v3,q,rfl,_⟩:=h
   rfl
 · obtain ⟨x,dx,Ox,pr,vp,t2,v2,t3,v3,q,rfl,h⟩:=h
   refine ⟨_,cb bu A outer s H E hr,x,dx,Ox,pr,vp,t2,v2,t3,v3,q,?_,?_,?_,?_,h⟩ <;> (unfold L2.start; rfl)
end
structure rS (K:KFr) (H H':Hp) (us:List T) (u:T) (p l:Addr):Prop where
 same:aN H H'
 tup:∃ v,H' p=some (.tup [.ref l,v])∧At K H' [] u v
 new:H l=none
 lst:∃ vs,H' l=some (.lst vs)∧az K H' [] us vs
 i1:eR us=true
 i2:bU u=true
def SW (K:KFr) (n:Nat) (G:List T→(List T→T→Prop)→Prop):Sp:=fun vs H Q _=>∃ ts Ox q,(∀ a∈Ox,H a≠none)∧az K H Ox ts vs∧ts.length=n∧G ts q ∧
 ∀ us u,q us u→∀ p l H',rS K H H' us u p l→Q (.ref p) H'
abbrev NF:=NA→(List T→T→Prop)→En→S→Prop
structure DpM (K:KFr) (M:Mz) (us:List T) (u:T) (p l:Addr) (H':Hp):Prop where
 kp:∀ b o,M.H0 b=some o→b∉M.rH→H' b=some o
 own:l∈M.rH∨M.H0 l=none
 tup:∃ v,H' p=some (.tup [.ref l,v])∧At K H' [] u v
 lst:∃ vs,H' l=some (.lst vs)∧az K H' [] us vs
 i1:eR us=true
 i2:bU u=true
def lMD (X:Cx) (M:Mz) (g:NF):TS:=fun D σ H=>∃ ρ s d dp,kx X.K M ρ s σ H∧g d dp ρ s∧Qh X.K M d D∧∀ us u,dp us u→∀ p l H',DpM X.K M us u p l H'→D.rt (.ref p) H'
def KP (X:Cx) (M:Mz) (st:List Stmt) (g:NF):Prop:=Bm (gG X st (lMD X M g))
section
variable {X:Cx} {M:Mz} {st:Stmt} {rest:List Stmt} {g:FM} {u:NF} {pos:Pos}
def NG (g:FM) (u:NF):NF:=fun d dp ρ s=>g { d with nx:=u d dp } ρ s
theorem oZ (h1:MS X M st g) (h2:KP X M rest u):KP X M (st :: rest) (NG g u):=⟨gG.h_ (bR h1.h h2.h) fun D σ H ⟨ρ,s,d,dp,I,h,F,q⟩ =>
 ⟨ρ,s,{ d with nx:=u d dp },I,h,⟨fun ρ' s' σ' H' I' h'=>⟨ρ',s',d,dp,I',h',F,q⟩,F.rt,F.bk,F.ct⟩⟩⟩
def VB (ps:List kr) (fe:FE):NF:=fun _ dp ρ s=>∃ ys:List T,s.get ps=some (.lst (ys.map .lf))∧eR ys=true∧fe ρ fun u=>bU u=true∧dp ys u
theorem aZ.lfs {K:KFr} {H:Hp} {A:List Addr}:∀ {ys:List T} {vs:List V} {fp:List Addr},aZ K H A (ys.map .lf) vs fp→az K H A ys vs
 | [],vs,fp,h=>by simp only [ME,aZ] at h; rw [h.1]; exact az.nil
 | y :: ys,vs,fp,h=>by
   simp only [i5,aZ,cj] at h
   obtain ⟨v,r,f,g,rfl,rfl,⟨_,h1⟩,h2⟩:=h
   exact az.cons h1 (aZ.lfs h2)
theorem KQ {o e:Expr} {ps:List kr} {fe:FE} {x1} {p pos:Pos} (ho:PE X o (jD M.k ps)) (he:∀ H0,VE X ⟨H0,[],M.Ox⟩ e fe)
  (s1:starEach [o,e] X.env=(false,eval o X.env) :: starEach [e] X.env:=by rfl) (s2:starEach [e] X.env=(false,eval e X.env) :: starEach [] X.env:=by rfl) :
  KP X M [.Return (some (.Tuple [o,e] x1 p)) pos] (VB ps fe):=⟨fun pins s' σ H D J ⟨ρ,s,d,dp,⟨⟨O,fp,F,I⟩,hp⟩,hg,Fi,dpk⟩=>by
 obtain ⟨ys,FV,hys,hg⟩:=hg
 obtain ⟨w,f1,f,f2,yP,ev,Vj,_⟩:=F.nh.focus FV
 have wt:=Vj
 simp only [cj] at wt
 obtain ⟨l,xs,gH,rfl,hl,rfl,hL⟩:=wt
 obtain ⟨_,hσ⟩:=cJ I hp
 refine i7 (sI (yo (bw ho (bw (he (iC H (roots O)) []) cO s2) s1))) pins s' σ H D J ⟨.ref M.a,.ref l,hσ,ev,ρ,O,_,I,hg,fun t ht v H1 sm a1=>⟨by rw [sizeLine_eq]; simp,fun p SM=>?_⟩⟩
 obtain ⟨hi,hq⟩:=ht
 have I0:=I.same sm
 have F1:=F.now I0 (bJ I)
 have sp:aN H1 (upd H1 p (.tup [.ref l,v])):=aG SM
 have Yk:l∈fp:=by rw [yP]; simp
 refine dpk ys t hq p l _ ⟨fun b o e n=>sp _ _ (F1.kp b o e n).1,F1.fr l Yk,⟨v,aI,At.bU hi (a1.same sp)⟩,⟨xs,sp _ _ (sm _ _ hl),?_⟩,hys,hi⟩
 exact az.bU hys ((hL.lfs.same sm).same sp)⟩
def NH (X:Cx) (k:Nat) (C:Addr) (GL:List T→(T→Prop)→Prop) (g:Hp→List Addr→List Addr→Addr→NF):TS:=fun D σ H=>∃ ρ Ox pr t2 t3 q,ax X.K ⟨H,[],Ox⟩ [] (List.replicate X.N.length none) ρ σ H∧k < ρ.length∧ρ[0]?=some (some (pr,false))∧ρ[2]?=some (some (t2,false))∧ρ[3]?=some (some (t3,false)) ∧
 bU t2=true∧bU t3=true∧GL [pr] q∧∀ L,q L→∀ H0 rH a,∃ dp,g H0 rH Ox a { nx:=fun _ _=>False,rt:=fun _ _ _=>False } dp (ρ.set k (some (.pin a (S.ins C mN (wy L t2 t3)).t,false))) (.ins C mN (wy L t2 t3))∧∀ us u,dp us u→∀ p l H',rS X.K H H' us u p l→D.rt (.ref p) H'
theorem F7 {k kC:Nat} {C fI:Addr} {Vs:FuncData} {x:Str} {GL:List T→(T→Prop)→Prop} {g:Hp→List Addr→List Addr→Addr→NF} {px pC e1 e2 e3 pc p1:Pos} (hN:X.N.Nodup) (hk:X.N[k]?=some x) (hx:Loc X.env.scope x) (MI:Mk X.K C fI) (FI:b_ X.prog X.w X.K X.mg X.base dI kC fI Vs ["self","program","most","poke"] (spK X.K C GL)) (rI:bz (kC+1) X.A) (gI:Gl X "Machine") (mI:X.mg "Machine" = some (.ref C)) (bI:Binds X.K Vs ["self","program","most","poke"] [])
  (wz:∀ H0 rH Ox a,KP X ⟨H0,rH,Ox,a,k⟩ rest (g H0 rH Ox a))
  (h0:X.N[0]?=some ("program" : Str):=by rfl) (h2:X.N[2]?=some ("most" : Str):=by rfl) (h3:X.N[3]?=some ("poke" : Str):=by rfl)
  (v0:j5 X.env.scope "program":=by exact Or.inl rfl) (v2:j5 X.env.scope "most":=by exact Or.inl rfl) (v3:j5 X.env.scope "poke":=by exact Or.inl rfl)
  (s1:starEach [.Name "program" e1,.Name "most" e2,.Name "poke" e3] X.env=(false,eval (.Name "program" e1) X.env) :: starEach [.Name "most" e2,.Name "poke" e3] X.env:=by rfl) (s2:starEach [.Name "most" e2,.Name "poke" e3] X.env=(false,eval (.Name "most" e2) X.env) :: starEach [.Name "poke" e3] X.env:=by rfl)
  (s3:starEach [.Name "poke" e3] X.env=(false,eval (.Name "poke" e3) X.env) :: starEach [] X.env:=by rfl) (s4:(backTo pc (starEach [.Name "most" e2,.Name "poke" e3] X.env)).any (·.1)=false:=by rfl)
  (hs:swapsWith (.Call (.Name "Machine" pC) [.Name "program" e1,.Name "most" e2,.Name "poke" e3] [] pc) (some (.Name x px)) p1.line X.env=pure false:=by rfl) (hf:X.fn x=true∨X.env.scope.names.lookup x=some .local:=by first | exact .inl rfl | exact .inr rfl | assumption) :
  gG X (.Assign [.Name x px] (.Call (.Name "Machine" pC) [.Name "program" e1,.Name "most" e2,.Name "poke" e3] [] pc) p1 :: rest) (NH X k C GL g):=fun pins s' σ H D J ⟨ρ,Ox,pr,t2,t3,q,I,hkl,i0,i2,i3,m2,m3,hG,kk⟩=>by
 obtain ⟨_,_,_,z0,rfl,w0,rfl,a0⟩:=I.sl 0 _ i0
 obtain ⟨_,_,_,z2,rfl,w2,rfl,a2⟩:=I.sl 2 _ i2
 obtain ⟨_,_,_,z3,rfl,w3,rfl,a3⟩:=I.sl 3 _ i3
 have ea:av ⟨H,[],Ox⟩ (List.replicate X.N.length none)=Ox:=by unfold av; rw [cW]; rfl
 rw [ea] at a0 a2 a3
 have ro:roots ((List.replicate X.N.length (none:Option Addr)).set k none)=[]:=by
  have:(List.replicate X.N.length (none:Option Addr)).set k none=List.replicate X.N.length none:=by
   refine SD fun i=>?_
   rw [Tg]
   split
   · rename_i e; subst e; rw [BB,An]
   · rfl
  rw [this]; exact cW _
 refine bR (n_ hN hk hx (sL MI FI rI gI mI bI .nil jz (bw (bT h0 v0 (by decide) (by decide)) (bw (bT h2 v2 (by decide) (by decide)) (bw (bT h3 v3 (by decide) (by decide)) cO s3) s2) s1) (by decide) s1 s4) hs hf)
  (t:=_) (u:=fun D σ1 H1=>∃ fp a,lMD X ⟨H1,fp,Ox,a,k⟩ (g H1 fp Ox a) D σ1 H1) (fun pins s σ1 H1 D1 J1 ⟨fp,a,h⟩=>(wz H1 fp Ox a).h pins s σ1 H1 D1 J1 h) pins s' σ H D J ⟨w0,z0,w2,z2,w3,z3,fun a dx na ndx eK=>?_⟩
 have nO:a∉Ox:=fun z=>I.ox a z na
 have s0:aN H (upd (upd H dx (.own a)) a (.ins C dx [])):=fun b o e=>by
  rw [aA (a9 e na),aA (a9 e ndx)]; exact e
 refine ⟨a,dx,Ox,pr,w0,t2,w2,t3,w3,q,rfl,aI,nO,fun b hb=>?_,(a0.more fun b hb=>?_).same s0,m2,At.bU m2 (a2.same s0),m3,At.bU m3 (a3.same s0),hG,fun L hL H1 In=>⟨rfl,?_⟩⟩
 · cases e:H b with
   | none=>exact absurd e (I.ox b hb)
   | some o=>rw [s0 _ _ e]; simp
 · rcases cY.mp hb with z | z
   · exact .inr (by rw [z]; exact na)
   · exact .inl z
 · obtain ⟨fp,hS,nd,each⟩:=In.ex
   have ne:∀ b∈fp,H b=none:=fun b hb=>by
    rcases each b hb with z | z
    · rw [z]; exact na
    · cases e:H b with
      | none=>rfl
      | some o=>rw [s0 _ _ e] at z; cases z
   have sm:aN H H1:=fun b o e=>In.fr b o (s0 _ _ e) (a9 e na)
   have lL:∀ b∈fp,b∉Ox:=fun b hb z=>I.ox b z (ne b hb)
   have view:At X.K H1 Ox (S.ins C mN (wy L t2 t3)).t (.ref a):=hS.view (fun b hb=>bO _ hb) lL
   obtain ⟨dp,hg,hd⟩:=kk L hL H1 fp a
   have J1:=(I.same sm).put (i:=k) (t:=.pin a (S.ins C mN (wy L t2 t3)).t) (v:=.ref a) (fun p hp=>absurd hp gK) (by rw [ea]; simp only [At]; exact ⟨trivial,view⟩)
   refine ⟨fp,a,_,_,_,dp,⟨⟨_,fp,⟨?_,nd,fun b hb=>⟨by rw [ro]; simp,lL b hb⟩,fun b hb=>.inl hb,fun b o e n=>⟨e,by rw [ro]; simp⟩⟩,J1.rebase (Z:=⟨H,[],Ox⟩) rfl⟩,?_⟩,hg,⟨fun _ _ _ _ _ z=>z.elim,fun _ _ _ _ _ _ _ _ _ _ _ _ _ z=>z.elim,fun _ _ _ _ _ z=>z.elim,fun _ _ _ _ _ z=>z.elim⟩,fun us u hu p l H' DM=>hd us u hu p l H' ⟨fun b o e=>DM.kp b o (sm _ _ e) (fun z=>by rw [ne b z] at e; cases e),DM.tup,?_,DM.lst,DM.i1,DM.i2⟩⟩
   · rw [ro]; exact hS
   · exact Am hkl
   · rcases DM.own with z | z
     · exact ne l z
     · cases e:H l with
       | none=>rfl
       | some o=>have z':H1 l=none:=z; rw [sm _ _ e] at z'; cases z'
end
section
variable {P:Program} {w:World} {K:KFr} {mg:Str→Option Value} {base:Heap}
theorem fnR {x qual:Str} {st:Stmt} {f C:Addr} {fd:FuncData} {N ps:List Str} {k j:Nat} {GL:List T→(T→Prop)→Prop} {G:List T→(List T→T→Prop)→Prop} (F:AE K x qual st f fd) (Sc:aC N ps (ah st)) (hn:4=ps.length) (hN:4≤N.length)
  (cb:∀ (bu:Value) (A:Around) (outer:List Env) (s:Shared) (H:Hp) (E:XK),bz k (A.deeper (envOfC qual (ah st) s.heap.objs.size f bu))→∀ t0 t1 t2 t3 q,G [t0,t1,t2,t3] q→∃ g qL,gG (eG dI P w K mg base N qual (ah st) f bu A outer s H E).nZ (bA st) (NH (eG dI P w K mg base N qual (ah st) f bu A outer s H E).nZ j C GL g)∧j < N.length∧bU t2=true∧bU t3=true∧GL [t0] qL ∧
    ∀ L,qL L→∀ H0 rH Ox a,g H0 rH Ox a { nx:=fun _ _=>False,rt:=fun _ _ _=>False } q ((some (t0,false) :: some (t1,false) :: some (t2,false) :: some (t3,false) :: List.replicate (N.length - 4) none:En).set j (some (.pin a (S.ins C mN (wy L t2 t3)).t,false))) (.ins C mN (wy L t2 t3))) :
  b_ P w K mg base dI (k+1) f fd ps (SW K 4 G):=by
 refine F.ok Sc (fun vs H Q E h=>?_) (fun bu A outer s H vs Q E hr h=>?_)
 · obtain ⟨ts,Ox,q,_,ha,hl,_⟩:=h
   rw [ha.length,hl,hn]
 · obtain ⟨ts,Ox,q,ox,ha,hl,hG,kk⟩:=h
   match ts,hl with
   | [t0,t1,t2,t3],_ =>
     obtain ⟨g,qL,hP,hj,m2,m3,hL,hg⟩:=cb bu A outer s H E hr t0 t1 t2 t3 q hG
     refine ⟨_,hP,_,Ox,t0,t2,t3,qL,i' (N:=N) (ts:=[t0,t1,t2,t3]) hN ox ha,?_,rfl,rfl,rfl,m2,m3,hL,fun L hq H0 rH a=>⟨q,hg L hq H0 rH Ox a,fun us u hu p l H' D=>kk us u hu p l H' D⟩⟩
     show j < (_ :: _ :: _ :: _ :: List.replicate (N.length - 4) none:En).length
     simp only [vb,An]
     omega
end
section
variable {X:Cx} {Z:Zc}
end
structure F8 (K:KFr) (x qual:Str) (st:Stmt) (f:Addr) (fd:FuncData):Prop where
 ex:∃ (oc:Value) (od:Option Addr) (dV kV doc pm:Value) (an:Option Addr) (bu ct:Value) (BR:Array (Option Value)),
  fd=PySem.W.fnOf x qual (cR st) (bA st) (ah st) dV kV doc pm an bu ct∧K.lookup f=some ⟨oc,od,.func fd,BR⟩∧PySem.W.codeIn K bu qual=true
 kp:PySem.W.keepIn K (.ref f)=true
section
variable {P:Program} {w:World} {K:KFr} {mg:Str→Option Value} {base:Heap}
theorem F8.ok {x qual:Str} {st:Stmt} {f:Addr} {fd:FuncData} {N ps:List Str} {k:Nat} {sp:Sp} (F:F8 K x qual st f fd) (S:aC N ps (ah st)) (len:∀ vs H Q E,sp vs H Q E→vs.length=ps.length)
  (cb:∀ (bu:Value) (A:Around) (outer:List Env) (s:Shared) (H:Hp) (vs:List V) (Q:VK) (E:XK),bz k (A.deeper (envOfC qual (ah st) s.heap.objs.size f bu))→sp vs H Q E →
    ∃ t,gG (eG dI P w K mg base N qual (ah st) f bu A outer s H E).nZ (bA st) t∧t { nx:=fun _ H'=>Q .aT H',rt:=Q } (start N vs) H):b_ P w K mg base dI (k+1) f fd ps sp:=by
 obtain ⟨oc,od,dV,kV,doc,pm,an,bu,ct,BR,rfl,lk,gn⟩:=F.ex
 refine MW lk gn S len fun A outer s H vs Q E hr II=>?_
 obtain ⟨t,h,q⟩:=cb bu A outer s H vs Q E hr II
 exact ⟨t,h.nZ,q⟩
end
section
variable {X:Cx} {Z:Zc} {k n:Nat} {f:Addr} {fd:FuncData} {ps:List Str} {G:List T→(List T→T→Prop)→Prop} {x:Str} {p pos:Pos} {e:Expr} {es:List Expr} {g:FA} {ds:List Value} {sJ:List V} {dts:List T}
def lDR (X:Cx) (Z:Zc) (tm:List (T×V)) (f:En→(List T→T→Prop)→Prop):TE:=fun σ H Q=>∃ ρ O q,ax X.K Z tm O ρ σ H∧f ρ q∧∀ us u,q us u→∀ p l H',rS X.K H H' us u p l→Q (.ref p) H'
def F9 (X:Cx) (Z:Zc) (e:Expr) (f:En→(List T→T→Prop)→Prop):Prop:=Bx fun tm=>PE X e (lDR X Z tm f)
instance {X:Cx} {Z:Zc} {e:Expr} {f:En→(List T→T→Prop)→Prop}:CoeFun (F9 X Z e f) fun _=>∀ tm,PE X e (lDR X Z tm f):=⟨fun h=>Bx.h h⟩
def Qt (n:Nat) (dts:List T) (g:FA) (G:List T→(List T→T→Prop)→Prop):En→(List T→T→Prop)→Prop:=fun ρ Q=>g ρ fun ts=>(ts ++ dts).length=n∧G (ts ++ dts) Q
theorem gz (F:b_ X.prog X.w X.K X.mg X.base dI k f fd ps (SW X.K n G)) (hr:bz k X.A) (hg:Gl X x) (hm:X.mg x=some (.ref f)) (hk:PySem.W.keepIn X.K (.ref f)=true) (hb:Binds X.K fd ps ds) (hd:Vals sJ ds) (hdt:∀ H A,az X.K H A dts sJ) (ha:VA X Z (e :: es) g)
  (qm:ic x:=by decide) (he:starEach (e :: es) X.env=(false,eval e X.env) :: starEach es X.env:=by rfl) (jy:(backTo pos (starEach es X.env)).any (·.1)=false:=by rfl) :
  F9 X Z (.Call (.Name x p) (e :: es) [] pos) (Qt n dts g G):=.mk fun tm=>PE.weak (j9 F hr hg hm hk hb hd jz (ha tm) qm he jy) fun σ H Q ⟨ρ,O,q,I,hf,k⟩ =>
 ⟨ρ,O,_,I,hf,fun ts eL vs H1 s1 a1=>by
   refine ⟨ts ++ dts,av Z O,q,(I.same s1).xZ,a1.append (hdt H1 _),eL.1,eL.2,fun us u hu p l H' D=>k us u hu p l H' ⟨s1.trans D.same,D.tup,?_,D.lst,D.i1,D.i2⟩⟩
   cases z:H l with
   | none=>rfl
   | some o=>have:=D.new; rw [s1 _ _ z] at this; cases this⟩
theorem rS.at {K:KFr} {tm:List (T×V)} {O:List (Option Addr)} {ρ:En} {σ:St} {H H':Hp} {us:List T} {u:T} {p l:Addr} (I:ax K Z tm O ρ σ H) (D:rS K H H' us u p l):At K H' (av Z O) (.tup [.lst us,u]) (.ref p):=by
 obtain ⟨v,h1,h2⟩:=D.tup
 obtain ⟨vs,h3,h4⟩:=D.lst
 refine bX (dG.of h1) (az.cons ?_ (az.cons (At.bU D.i2 h2) az.nil))
 simp only [At]
 exact ⟨l,vs,rfl,.inl ⟨.inl h3,fun z=>I.xZ _ z D.new⟩,az.bU D.i1 h4⟩
def VF (f:En→(List T→T→Prop)→Prop):FP:=fun ρ Q=>f ρ fun us u=>Q (.vw (.tup [.lst us,u]))
theorem F9.vp {f:En→(List T→T→Prop)→Prop} (h:F9 X Z e f):VP X Z e (VF f):=.mk fun tm=>PE.weak (h tm) fun σ H Q ⟨ρ,O,q,I,hf,k⟩ =>
 ⟨ρ,O,fun us u=>q (.vw (.tup [.lst us,u])),I,hf,fun us u hu p l H' D=>k _ hu _ H' D.same ⟨I.same D.same,D.at I⟩⟩
theorem F_ {f:En→(List T→T→Prop)→Prop} {pos:Pos} (h:F9 X Z e f):gG X [.Return (some e) pos] (fun D σ H=>∃ ρ O q,ax X.K Z [] O ρ σ H∧f ρ q∧∀ us u,q us u→∀ p l H',rS X.K H H' us u p l→D.rt (.ref p) H') :=
 i7 (sI (h []))
end
section
variable {P:Program} {w:World} {K:KFr} {mg:Str→Option Value} {base:Heap}
theorem acB {x qual:Str} {st:Stmt} {f:Addr} {fd:FuncData} {N ps:List Str} {k n:Nat} {G:List T→(List T→T→Prop)→Prop} (F:F8 K x qual st f fd) (S:aC N ps (ah st)) (hn:n=ps.length) (hN:n≤N.length)
  (cb:∀ (bu:Value) (A:Around) (outer:List Env) (s:Shared) (H:Hp) (E:XK) (Ox:List Addr),bz k (A.deeper (envOfC qual (ah st) s.heap.objs.size f bu))→∀ ts q,G ts q→ts.length=n→∃ e pos f',bA st=[.Return (some e) pos]∧F9 (eG dI P w K mg base N qual (ah st) f bu A outer s H E).nZ ⟨H,[],Ox⟩ e f'∧f' (ts.map (fun t=>some (t,false)) ++ List.replicate (N.length - ts.length) none) q) :
  b_ P w K mg base dI (k+1) f fd ps (SW K n G):=by
 refine F.ok S (fun vs H Q E h=>?_) (fun bu A outer s H vs Q E hr h=>?_)
 · obtain ⟨ts,Ox,q,_,ha,hl,_⟩:=h
   rw [ha.length,hl,hn]
 · obtain ⟨ts,Ox,q,ox,ha,hl,hG,kk⟩:=h
   obtain ⟨e,pos,f',hb,hV,hf⟩:=cb bu A outer s H E Ox hr ts q hG hl
   rw [hb]
   exact ⟨_,F_ hV,_,_,q,i' (by omega) ox ha,hf,kk⟩
end
structure Hd (K:KFr) (Z:Zc) (i:Nat) (tm:List (T×V)) (p l:Addr) (O:List (Option Addr)) (ρ:En) (σ:St) (H:Hp):Prop where
 I:ax K ⟨iC H (roots O),[],l :: Z.Ox⟩ tm O ρ σ H
 hi:ρ[i]?=some (some (.ob p,false))
 hp:∃ v,H p=some (.tup [.ref l,v])
 hl:∃ vs,H l=some (.lst vs)
 kp:∀ b o,Z.H0 b=some o→H b=some o∧b∉roots O∧b≠l
 lO:l∉Z.Ox
section
variable {K:KFr} {Z:Zc} {i:Nat} {tm:List (T×V)} {p l:Addr} {O O':List (Option Addr)} {ρ ρ':En} {σ σ':St} {H H':Hp} {as:List Addr}
theorem Hd.out (h:Hd K Z i tm p l O ρ σ H) (hP:Z.P=[]) (J:ax K ⟨iC H (roots O),[],as ++ l :: Z.Ox⟩ tm O' ρ' σ' H'):ax K ⟨Z.H0,Z.P,as ++ Z.Ox⟩ tm O' ρ' σ' H':=by
 have sub:∀ b∈av ⟨Z.H0,Z.P,as ++ Z.Ox⟩ O',b∈av ⟨iC H (roots O),[],as ++ l :: Z.Ox⟩ O':=fun b hb=>by
  rcases cA.mp hb with z | z
  · exact cq _ z
  · rcases cA.mp z with z | z
    · exact bO _ (cq _ z)
    · exact bO _ (bO _ (eB _ z))
 refine ⟨J.lσ,J.lO,fun j e q=>?_,J.nd,fun b hb=>?_,(fun q hq=>by rw [hP] at hq; cases hq),fun b hb=>J.ox b ?_,fun b o e _=>?_,fun q hq=>(J.m6 q hq).aX sub⟩
 · obtain ⟨o,s,h1,h2,h3⟩:=J.sl j e q
   exact ⟨o,s,h1,h2,h3.map (fun _ _ q=>q.aX sub) fun _ _ _ q=>q.aX sub⟩
 · obtain ⟨h1,h2,h3⟩:=J.own b hb
   refine ⟨.inr ?_,fun z=>h2 ?_,h3⟩
   · cases e:Z.H0 b with
     | none=>rfl
     | some o =>
       exfalso
       obtain ⟨k1,k2,_⟩:=h.kp b o e
       rcases h1 with z | z
       · cases z
       · rcases ku z with z | z
         · exact k2 z
         · rw [k1] at z; cases z
   · rcases cA.mp z with z | z
     · exact cq _ z
     · exact bO _ (eB _ z)
 · rcases cA.mp hb with z | z
   · exact cq _ z
   · exact bO _ (eB _ z)
 · obtain ⟨k1,k2,_⟩:=h.kp b o e
   exact J.keep b o (by show iC H (roots O) b=_; rw [tW k2]; exact k1) (by simp)
theorem Hd.next (h:Hd K Z i tm p l O ρ σ H) (J:ax K ⟨iC H (roots O),[],l :: Z.Ox⟩ tm O' ρ' σ' H') (hi:ρ'[i]?=some (some (.ob p,false))):Hd K Z i tm p l O' ρ' σ' H':=by
 have kept:∀ b o,H b=some o→b∉roots O→H' b=some o:=fun b o e n=>J.keep b o (by show iC H (roots O) b=_; rw [tW n]; exact e) (by simp)
 have nl:l∉roots O:=fun z=>(h.I.own l z).2.1 c6
 have np:p∉roots O:=fun z=>by
  obtain ⟨v,e⟩:=h.hp
  obtain ⟨_,_,u,e',m⟩:=h.I.own p z
  rw [e] at e'; cases e'; cases m
 obtain ⟨v,e1⟩:=h.hp
 obtain ⟨vs,e2⟩:=h.hl
 refine ⟨J.rebase (Z:=⟨iC H (roots O),[],l :: Z.Ox⟩) rfl,hi,⟨v,kept _ _ e1 np⟩,⟨vs,kept _ _ e2 nl⟩,fun b o e=>?_,h.lO⟩
 obtain ⟨k1,k2,k3⟩:=h.kp b o e
 refine ⟨kept _ _ k1 k2,fun z=>?_,k3⟩
 rcases (J.own b z).1 with y | y
 · cases y
 · rcases ku y with y | y
   · exact k2 y
   · rw [k1] at y; cases y
end
def lSH (X:Cx) (Z:Zc) (i:Nat) (tm:List (T×V)) (g:Addr→FS):TS:=fun D σ H=>∃ ρ O d p l,Hd X.K Z i tm p l O ρ σ H∧g p d ρ∧Fin X.K Z tm d D
def Ga (X:Cx) (Z:Zc) (i:Nat) (st:List Stmt) (g:Addr→FS):Prop:=Bx fun tm=>gG X st (lSH X Z i tm g)
instance {X:Cx} {Z:Zc} {i:Nat} {st:List Stmt} {g:Addr→FS}:CoeFun (Ga X Z i st g) fun _=>∀ tm,gG X st (lSH X Z i tm g):=⟨fun h=>Bx.h h⟩
section
variable {X:Cx} {Z:Zc} {i:Nat} {st:Stmt} {rest:List Stmt} {g:FS} {u:Addr→FS} {pos:Pos}
def VH (i:Nat) (g:FS) (u:Addr→FS):Addr→FS:=fun p d ρ=>g { d with nx:=fun ρ'=>ρ'[i]?=some (some (.ob p,false))∧u p d ρ' } ρ
theorem o4 (hP:Z.P=[]) (h1:∀ H0 Ox,VS X ⟨H0,[],Ox⟩ st g) (h2:Ga X Z i rest u):Ga X Z i (st :: rest) (VH i (fun d ρ=>d.bk=(fun _=>False)∧d.ct=(fun _=>False)∧g d ρ) u):=.mk fun tm =>
 fun pins s' σ H D J ⟨ρ,O,d,p,l,h,q,F⟩=>by
  obtain ⟨hb,hc,q⟩:=q
  have KG:d.bk=fun _=>False:=hb
  have nY:d.ct=fun _=>False:=hc
  refine bR (h1 (iC H (roots O)) (l :: Z.Ox) tm) (h2 tm) pins s' σ H D J ⟨ρ,O,_,h.I,q,⟨fun O' ρ' σ' H' J' ⟨z1,z2⟩=>?_,fun O' ρ' σ' H' r v z hr=>?_,fun O' ρ' σ' H' J' z=>?_,fun O' ρ' σ' H' J' z=>?_⟩⟩
  · exact ⟨ρ',O',d,p,l,h.next J' z1,z2,F⟩
  · refine F.rt O' ρ' σ' H' r v ?_ hr
    cases r with
    | vw t =>
      obtain ⟨z1,z2⟩:=z
      have z1':=h.out (as:=[]) hP z1
      exact ⟨z1',z2.aX fun b hb=>by
       rcases cA.mp hb with y | y
       · exact cq _ y
       · exact bO _ (eB _ y)⟩
    | fr t =>
      obtain ⟨a,rfl,z1,z2,z3,z4⟩:=z
      have z1':=h.out (as:=[a]) hP z1
      refine ⟨a,rfl,z1',z2.aX fun b hb=>?_,?_,fun y=>z4 (eB _ y)⟩
      · rcases cA.mp hb with y | y
        · exact cq _ y
        · refine bO _ ?_
          rcases cY.mp y with y | y
          · rw [y]; exact c6
          · exact eB _ (eB _ y)
      · cases e:Z.H0 a with
        | none=>rfl
        | some o =>
          exfalso
          obtain ⟨k1,k2,_⟩:=h.kp a o e
          rcases ku z3 with z | z
          · exact k2 z
          · rw [k1] at z; cases z
  · have z':d.bk ρ':=z
    rw [KG] at z'; exact z'.elim
  · have z':d.ct ρ':=z
    rw [nY] at z'; exact z'.elim
def acC (i:Nat) (g:FS):Addr→FS:=fun _ d ρ=>g d (ρ.set i none)
theorem Cv {x:Str} {q1 q2 q3 q4 q5 q6:Pos} {k1} (hP:Z.P=[]) (hi:X.N[i]?=some x) (vx:j5 X.env.scope x) (wz:m8 X Z rest g) (hd:ic x:=by decide) (gn:va x:=by decide)
  (a1:attributeBase (.Subscript (.Name x q1) (.Constant (.int 0) k1 q2) q3) "clear" X.env (eval (.Subscript (.Name x q1) (.Constant (.int 0) k1 q2) q3) X.env)=eval (.Subscript (.Name x q1) (.Constant (.int 0) k1 q2) q3) X.env:=by rfl) (l1:(q4.endLine == q5.line)=true:=by rfl)
  (sw1:swapsWith (.Call (.Attribute (.Subscript (.Name x q1) (.Constant (.int 0) k1 q2) q3) "clear" q4) [] [] q5) none q6.line X.env=pure false:=by rfl) (ix1:nF (.Constant (.int 0) k1 q2):=by exact fun _ _=>rfl) :
  Ga X Z i (.Expr (.Call (.Attribute (.Subscript (.Name x q1) (.Constant (.int 0) k1 q2) q3) "clear" q4) [] [] q5) q6 :: rest) (acC i g):=.mk fun tm =>
 fun pins s' σ H D J ⟨ρ,O,d,p,l,h,q,F⟩=>by
  obtain ⟨v,e1⟩:=h.hp
  obtain ⟨vs,e2⟩:=h.hl
  obtain ⟨o,w,z1,z2,z3⟩:=h.I.sl i _ h.hi
  obtain ⟨rfl,w',rfl,z4⟩:=z3
  simp only [At] at z4
  subst z4
  refine bR (i8 (sR Sy PySem.F.slot_list_clear PySem.F.type_list_clear Ey (Er Es (bT hi vx hd gn) yb ix1) a1 l1) sw1) (wz tm) pins s' σ H D J
   ⟨.ref p,z2,p,_,0,.ref l,rfl,rfl,dG.of e1,rfl,.inl ⟨rfl,vs,fA.of e2⟩,l,vs,rfl,rfl,e2,?_⟩
  have h2:=h.out (as:=[]) hP h.I
  have nl:l∉roots O:=fun z=>(h.I.own l z).2.1 c6
  refine ⟨ρ.set i none,O.set i none,d,?_,q,F⟩
  have J2:=h.I.forget (i:=i) (fun p hp=>absurd hp gK)
  have hA:l∈av ⟨iC H (roots O),[],l :: Z.Ox⟩ (O.set i none):=bO _ c6
  have J3:ax X.K ⟨iC H (roots O),[],l :: Z.Ox⟩ tm (O.set i none) (ρ.set i none) σ H:=J2
  have sub:∀ b∈av Z (O.set i none),b∈av ⟨iC H (roots O),[],l :: Z.Ox⟩ (O.set i none):=fun b hb=>by
   rcases cA.mp hb with z | z
   · exact cq _ z
   · exact bO _ (eB _ z)
  have J4:=h.out (as:=[]) hP J3
  have nl2:l∉roots (O.set i none):=fun z=>nl (bF i l z)
  have wr:∀ {t:T} {v:V},At X.K H (av ⟨iC H (roots O),[],l :: Z.Ox⟩ (O.set i none)) t v→At X.K (upd H l (.lst [])) (av Z (O.set i none)) t v:=fun q=>(q.wrote hA e2 rfl).aX sub
  have wrL:∀ {ts:List T} {vs:List V},az X.K H (av ⟨iC H (roots O),[],l :: Z.Ox⟩ (O.set i none)) ts vs→az X.K (upd H l (.lst [])) (av Z (O.set i none)) ts vs:=fun q=>(az.wrote hA e2 rfl q).aX sub
  refine ⟨J3.lσ,J3.lO,fun j e hq=>?_,J3.nd,fun b hb=>?_,(fun q hq=>by rw [hP] at hq; cases hq),fun b hb=>?_,fun b o e _=>?_,fun q hq=>wr (J3.m6 q hq)⟩
  · obtain ⟨o,s,h1,Kr,h3⟩:=J3.sl j e hq
    refine ⟨o,s,h1,Kr,?_⟩
    match e,h3 with
    | none,h3=>exact h3
    | some (t,false),h3 =>
      obtain ⟨r1,v,r2,r3⟩:=h3
      exact ⟨r1,v,r2,wr r3⟩
    | some (t,true),h3 =>
      obtain ⟨c,r1,r2,r3⟩:=h3
      refine ⟨c,r1,r2,r3.map ?_ fun _ _=>wrL⟩
      rw [aA]
      rintro rfl
      rw [r1] at h1
      exact nl2 (aK.mpr (ik h1))
  · obtain ⟨y1,y2,u,y3,y4⟩:=J4.own b hb
    refine ⟨y1,y2,u,?_,y4⟩
    rw [aA (fun z=>nl2 (by rw [← z]; exact hb))]
    exact y3
  · by_cases z:b=l
    · rw [z,aI]; simp
    · rw [aA z]; exact J4.ox b hb
  · obtain ⟨k1,k2,k3⟩:=h.kp b o e
    rw [aA k3]
    exact J4.keep b o e (by rw [hP]; simp)
def VJ (i:Nat) (f:En→(List T→T→Prop)→Prop) (fc:FB) (gr:FS) (u:Addr→FS):FS:=fun d ρ=>f ρ fun us w=>i < ρ.length∧fc (ρ.set i (some (.tup [.lst us,w],false))) fun b=>if b=true then gr { d with nx:=fun _=>False } (ρ.set i (some (.tup [.lst us,w],false))) else ∀ p,u p d (ρ.set i (some (.ob p,false)))
theorem Gb {x:Str} {e c:Expr} {rb:List Stmt} {f:En→(List T→T→Prop)→Prop} {fc:FB} {gr:FS} {px p1 p2:Pos} (hP:Z.P=[]) (hN:X.N.Nodup) (hi:X.N[i]?=some x) (hx:Loc X.env.scope x) (he:F9 X Z e f) (hc:VC X Z c fc) (hr:m8 X Z rb gr) (wz:Ga X Z i rest u)
  (hs:swapsWith e (some (.Name x px)) p1.line X.env=pure false:=by rfl) (hf:X.fn x=true∨X.env.scope.names.lookup x=some .local:=by first | exact .inl rfl | exact .inr rfl | assumption) :
  m8 X Z (.Assign [.Name x px] e p1 :: .If c rb [] p2 :: rest) (VJ i f fc gr u):=.mk fun tm =>
 gG.h_ (bR (n_ hN hi hx (he tm) hs hf) (bR (Eb (hc tm) (hr tm) Au) (wz tm))) fun D σ H ⟨ρ,O,d,I,q,F⟩=>by
  have npi:br Z i:=fun p hp=>by rw [hP] at hp; cases hp
  refine ⟨ρ,O,_,I,q,fun us w BV p l H1 DD=>?_⟩
  obtain ⟨hil,hq⟩:=BV
  have I1:ax X.K Z tm (O.set i none) (ρ.set i (some (.tup [.lst us,w],false))) (σ.set i (some (.ref p))) H1:=(I.same DD.same).put npi (DD.at I)
  show lB X Z tm fc (σ.set i (some (.ref p))) H1 _
  refine ⟨_,_,_,I1,hq,fun b Cb H2 s2=>?_⟩
  cases b with
  | true =>
    rw [if_pos rfl] at Cb ⊢
    exact ⟨_,_,_,I1.same s2,Cb,⟨fun _ _ _ _ _ h'=>h'.elim,F.rt,F.bk,F.ct⟩⟩
  | false =>
    rw [if_neg eC] at Cb ⊢
    have sH:aN H H2:=DD.same.trans s2
    obtain ⟨v,h1,_⟩:=DD.tup
    obtain ⟨vs,h3,_⟩:=DD.lst
    have I2:ax X.K Z tm (O.set i none) (ρ.set i (some (.ob p,false))) (σ.set i (some (.ref p))) H2:=(I.same sH).put npi (by simp only [At])
    have fresh:∀ a∈l :: av Z O,a∈av Z O∨H a=none:=fun a ha=>by
     rcases cY.mp ha with z | z
     · exact .inr (by rw [z]; exact DD.new)
     · exact .inl z
    have Qu:∀ b∈av ⟨Z.H0,Z.P,l :: Z.Ox⟩ O,b∈l :: av Z O:=fun b hb=>by
     rcases cA.mp hb with z | z
     · exact eB _ (cq _ z)
     · rcases cY.mp z with z | z
       · rw [z]; exact c6
       · exact eB _ (bO _ z)
    have lO:l∉Z.Ox:=fun z=>I.ox l z DD.new
    have nlr:l∉roots O:=fun z=>I.xZ l (cq _ z) DD.new
    have Ix:ax X.K ⟨Z.H0,Z.P,l :: Z.Ox⟩ tm O ρ σ H2:=by
     refine ⟨I.lσ,I.lO,fun j e hj=>?_,I.nd,fun b hb=>?_,I.par,fun b hb=>?_,fun b o e n=>sH _ _ (I.keep b o e n),fun q hq=>?_⟩
     · obtain ⟨o,s,r1,r2,r3⟩:=I.sl j e hj
       refine ⟨o,s,r1,r2,(r3.map (A':=av ⟨Z.H0,Z.P,l :: Z.Ox⟩ O) (H':=H2) (fun _ _ q=>((q.more fresh).same sH).aX Qu) fun a t _ q=>?_)⟩
       obtain ⟨u0,e0,_⟩:=q.mut
       exact q.map (by rw [e0]; exact sH _ _ e0) fun _ _ q=>((q.more fresh).same sH).aX Qu
     · obtain ⟨y1,y2,u0,y3,y4⟩:=I.own b hb
       refine ⟨y1,fun z=>?_,u0,sH _ _ y3,y4⟩
       rcases cY.mp z with z | z
       · exact nlr (by rw [← z]; exact hb)
       · exact y2 z
     · rcases cY.mp hb with z | z
       · rw [z,s2 _ _ h3]; simp
       · exact (I.same sH).ox b z
     · exact (((I.m6 q hq).more fresh).same sH).aX Qu
    have Iy:=(Ix.put (i:=i) (t:=.ob p) (v:=.ref p) (by rw [hP]; exact fun p hp=>absurd hp gK) (by simp only [At])).rebase (Z:=⟨Z.H0,Z.P,l :: Z.Ox⟩) hP
    refine ⟨_,_,d,p,l,⟨Iy,Am hil,⟨v,s2 _ _ h1⟩,⟨vs,s2 _ _ h3⟩,fun b o e=>?_,lO⟩,Cb p,F⟩
    have eb:=I.keep b o e (by rw [hP]; simp)
    refine ⟨sH _ _ eb,fun z=>?_,fun z=>by rw [z,DD.new] at eb; cases eb⟩
    have z':=bF i b z
    rcases (I.own b z').1 with y | y
    · rw [hP] at y; cases y
    · rw [e] at y; cases y
end
end VT
namespace VT
open PySem PySem.Spec PyProof.Rows L2
open AutoSeq1 (wpAny_loadPart')
theorem Cw (b:Addr) (xs:Array Value) (m:Nat) (dq:Option Addr) (sq:Array (Option Value)) :
  Meets (Builtin.«enumerate.__new__» ⟨[.type "enumerate",.ref b],[]⟩) (fun _ R s=>s.heap.get? b=some ⟨.type "tuple",dq,.seq xs m,sq⟩ ∧
   R (.ok (.ret (.ref (s.heap.push { cls:=.type "tuple_iterator",data:=.fields #[.ref b,.int 0 0] }).objs.size)))
    { s with heap:=(s.heap.push { cls:=.type "tuple_iterator",data:=.fields #[.ref b,.int 0 0] }).push ⟨.type "enumerate",none,.fields #[.none,.bool false,.ref s.heap.objs.size,rawInt 0,.none,.none],#[]⟩ }) :=
 .of_wp fun prog w A R s ⟨hb,k⟩=>by
  obtain ⟨h0,g0,d0,t0,os0⟩:=s
  have acd:=sub_enumerate
  have hT:Heap.IsTuple (Shared.heap ⟨h0,g0,d0,t0,os0⟩) b xs:=⟨_,hb,rfl,m,rfl⟩
  wp_walk using wpAny_loadPart' hb
  refine wpAny_stack_any fun st=>wpAny_pure ?_
  split
  · rename_i c _ _ _ _ _
    cases (c == Value.type "enumerate") <;> (wp_walk using wpAny_loadPart' hb,wpAny_pyIter_tuple hT) <;> exact ⟨_,rfl,k⟩
  · wp_walk using wpAny_loadPart' hb,wpAny_pyIter_tuple hT
    exact ⟨_,rfl,k⟩
section
variable {prog:Program} {w:World} {A:Around} {E:Value→Shared→Prop} {s:Shared}
theorem Gd {b:Addr} {xs:Array Value} {Q:Value→Shared→Prop} (hT:s.heap.IsTuple b xs)
  (k:∀ h',IsEnum h' (s.heap.objs.size+1) s.heap.objs.size 0 .none→h'.IsTupleIter s.heap.objs.size b 0→(∀ c o,s.heap.get? c=some o→h'.get? c=some o)→Q (.ref (s.heap.objs.size+1)) { s with heap:=h' }) :
  wpAny (model prog w) A (call (.type "enumerate") [.ref b]) Q E s:=by
 obtain ⟨⟨c,dq,dt,sq⟩,hb,hc,m,hd⟩:=hT
 have e1:c = .type "tuple":=hc
 have e2:dt = .seq xs m:=hd
 subst e1 e2
 refine callType_new F.called_enumerate (by decide) (F.typeCall_enumerate_1 _) (F.newCall_enumerate_1 _) (fun obj=>F.args_object_init_2 obj _) F.entry_enumerate_new (Cw b xs m dq sq) ⟨hb,?_⟩
 have z1:(s.heap.push { cls:=.type "tuple_iterator",data:=.fields #[.ref b,.int 0 0] }).objs.size=s.heap.objs.size+1:=DY ..
 have z2:IsEnum ((s.heap.push { cls:=.type "tuple_iterator",data:=.fields #[.ref b,.int 0 0] }).push ⟨.type "enumerate",none,.fields #[.none,.bool false,.ref s.heap.objs.size,rawInt 0,.none,.none],#[]⟩) (s.heap.objs.size+1) s.heap.objs.size 0 .none:=by
  rw [← z1]; exact mZ _ rfl
 show _∧_
 rw [z1]
 exact ⟨⟨_,z2,rfl⟩,k _ z2 ⟨_,fH _ (mZ _ rfl),rfl,rfl⟩ fun c o q=>fH _ (fH _ q)⟩
theorem yR {j b:Addr} {n:Nat} {xs:Array Value} {y:Value} {Q:Value→Shared→Prop} (hj:s.heap.IsTupleIter j b n) (hb:s.heap.IsTuple b xs) (hy:xs[n]?=some y)
  (k:∀ h',h'.IsTupleIter j b (n+1)→Heap.SameBut j s.heap h'→Q y { s with heap:=h' }):wpAny (model prog w) A (Builtin.SmallTypes.nextOf (.ref j)) Q E s:=by
 obtain ⟨u,g1,g2,g3⟩:=id hj
 obtain ⟨v,f1,_,q,f2⟩:=hb
 unfold Builtin.SmallTypes.nextOf
 refine wpAny_bind (wpAny_callSpecial?_slot (name:=Str.ofString "__next__") hj.typeIs Ms (wpAny_call_entry Ms hj.typeIs Xw ?_ (Xv _)))
 show wpAny _ _ (field (.ref j) 0 >>= _) _ _ s
 refine wpAny_bind (wpAny_field g1 g3 (x:=.ref b) rfl ?_)
 show wpAny _ _ (if (Value.ref b == Value.none)=true then _ else _) _ _ s
 rw [if_neg (show ¬ ((Value.ref b == Value.none)=true) from eC)]
 show wpAny _ _ (field (.ref j) 1 >>= _) _ _ s
 refine wpAny_bind (wpAny_field g1 g3 (x:=.int n 0) rfl ?_)
 show wpAny _ _ (seqItems? (.ref b) >>= _) _ _ s
 refine wpAny_bind (wpAny_seqItems f1 f2 ?_)
 simp only [xY,hy]
 refine wpAny_bind (wpAny_setField g1 g3 (by simp) (wpAny_pure ⟨y,rfl,wpAny_pure (k _ ⟨_,Heap.get?_update_self _ g1 (Obj.isFreed_of_fields (XM g3 _)),(Obj.cls_mapFields ..).trans g2,by rw [XM g3]; simp [rawInt]⟩ (XE ..))⟩))
theorem rT {j b:Addr} {n:Nat} {xs:Array Value} {Q:Value→Shared→Prop} (hh:A.handled=none) (hj:s.heap.IsTupleIter j b n) (hb:s.heap.IsTuple b xs) (hy:xs[n]?=none)
  (k:∀ h' e,Heap.ExtBut j s.heap h'→(∃ o,h'.get? e=some o∧o.cls = .type "StopIteration")→E (.ref e) { s with heap:=h' }):wpAny (model prog w) A (Builtin.SmallTypes.nextOf (.ref j)) Q E s:=by
 obtain ⟨u,g1,g2,g3⟩:=id hj
 obtain ⟨v,f1,_,q,f2⟩:=hb
 unfold Builtin.SmallTypes.nextOf
 refine wpAny_bind (wpAny_callSpecial?_slot (name:=Str.ofString "__next__") hj.typeIs Ms (wpAny_call_entry Ms hj.typeIs Xw ?_ (Xv _)))
 show wpAny _ _ (field (.ref j) 0 >>= _) _ _ s
 refine wpAny_bind (wpAny_field g1 g3 (x:=.ref b) rfl ?_)
 show wpAny _ _ (if (Value.ref b == Value.none)=true then _ else _) _ _ s
 rw [if_neg (show ¬ ((Value.ref b == Value.none)=true) from eC)]
 show wpAny _ _ (field (.ref j) 1 >>= _) _ _ s
 refine wpAny_bind (wpAny_field g1 g3 (x:=.int n 0) rfl ?_)
 show wpAny _ _ (seqItems? (.ref b) >>= _) _ _ s
 refine wpAny_bind (wpAny_seqItems f1 f2 ?_)
 simp only [xY,hy]
 refine wpAny_bind (wpAny_rule (wpAny_bind (wpAny_setField g1 g3 (by simp) ?_)))
 show wpAny _ _ (newExc (.type "StopIteration") [] >>= _) _ _ _
 refine wpAny_bind ?_
 simp only [newExc,newTuple]
 refine wpAny_bind (wpAny_newObj_type ?_ (by size_fits))
 refine wpAny_bind (m:=firstArgMember _ _) (wpAny_of_eq (a:=Value.none) (by first | rfl | (simp only [firstArgMember]; rfl)) ?_)
 refine wpAny_newObj_type ?_ (by size_fits)
 simp only [raiseNew]
 refine wpAny_bind (wpAny_handled ?_)
 first | rw [show A.in1.handled=none from hh] | rw [hh]
 exact wpAny_bind (wpAny_pure (wpAny_throw (k _ _ (((XE ..).extBut.push _).push _) ⟨_,mZ _ rfl,rfl⟩)))
end
theorem VL {prog:Program} {w:World} {A:Around} (hh:A.handled=none) (j b:Addr) (eK:b≠j) (xs:Array Value):Draws prog w A j [j,b] xs.size (fun i v=>xs[i]?=some v) (fun i h=>h.IsTupleIter j b i∧h.IsTuple b xs) where
 live:=fun _ _ st=>let ⟨o,ho,_⟩:=st.1; ⟨o,ho⟩
 frame:=fun _ _ _ st hk=>⟨let ⟨o,e,r⟩:=st.1; ⟨o,hk j (by simp) o e,r⟩,let ⟨o,e,r⟩:=st.2; ⟨o,hk b (by simp) o e,r⟩⟩
 item:=fun i s Q E hi st k=>yR st.1 st.2 (y:=xs[i]) (by simp [hi]) fun h' h1 h2=>k _ h' s.toks (by simp [hi]) ⟨h1,st.2.extBut h2.extBut eK⟩ h2
 done:=fun s Q E st k=>rT hh st.1 st.2 (by simp) k
theorem VM {prog:Program} {w:World} {A:Around} (hh:A.handled=none) (j b:Addr) (xs:Array Value) (i:Nat) (hi:xs[i]?=none):Draws prog w A j [j,b] i (fun _ _=>False) (fun k h=>k=i∧h.IsTupleIter j b i∧h.IsTuple b xs) where
 live:=fun _ _ st=>let ⟨o,ho,_⟩:=st.2.1; ⟨o,ho⟩
 frame:=fun _ _ _ st hk=>⟨st.1,let ⟨o,e,r⟩:=st.2.1; ⟨o,hk j (by simp) o e,r⟩,let ⟨o,e,r⟩:=st.2.2; ⟨o,hk b (by simp) o e,r⟩⟩
 item:=fun k s Q E hk st _=>absurd st.1 (j4 hk)
 done:=fun s Q E st k=>rT hh st.2.1 st.2.2 hi k
def Qv (K:KFr) (a:Addr):It :=
 ⟨fun i H=>∃ xs x,dG K H a xs∧xs[i]?=some x,fun i H v H'=>∃ t x,H t=none∧v = .ref t∧(∀ xs,dG K H a xs→xs[i]?=some x)∧H'=upd H t (.tup [.int (i:Int),x]),fun i H=>∃ xs,dG K H a xs∧xs.length≤i⟩
theorem yS {P:Program} {w:World} {K:KFr} {elts:List Expr} {x1} {tp:Pos} (a e it:Addr) (eK:e≠it) (hea:e≠a) (hai:a≠it) :
  Turn P w K (.Tuple elts x1 tp) (Qv K a) [e,it] e (fun i h=>(∃ old,IsEnum h e it (i:Int) old)∧h.IsTupleIter it a i) where
 mem:=by simp
 obj:=fun i h st b hb=>by
  obtain ⟨⟨old,h1⟩,o,h2,c,d⟩:=st
  rcases cY.mp hb with z | z
  · subst z; exact ⟨_,h1,fun v z=>by cases z⟩
  · have z':b=it:=by simpa using z
    subst z'; exact ⟨o,h2,fun v z=>by rw [d] at z; cases z⟩
 keep:=fun i h h' st k=>by
  obtain ⟨⟨old,h1⟩,o,e2,r⟩:=st
  exact ⟨⟨old,k e (by simp) _ h1⟩,o,k it (by simp) o e2,r⟩
 item:=by
  intro X hP hw hK hc i pins s σ H E I hf st hg
  subst hP hw hK
  obtain ⟨xs,x,hq,hx⟩:=hg
  obtain ⟨aP,rv,p,hz⟩:=I.tuple hq
  obtain ⟨u,hu,ru⟩:=rv.get hx
  obtain ⟨⟨old,h1⟩,vo⟩:=st
  have hi:i < aP.toArray.size:=by simp; exact (fG.mp hu).1
  refine wpAny_pyNext_enum_itemD (VL (show X.A.in1.handled=none from I.ok.hd hc) it a hai aP.toArray) h1 ⟨vo,p⟩ hi eK (by simp [eK,hea]) fun u' h₁ tk hP IG Pm ZF DO ZG=>?_
  have eu:u'=u:=by
   have Ut:aP[i]?=some u':=by simpa using hP
   rw [hu] at Ut; exact (Option.some.inj Ut).symm
  subst eu
  refine ⟨_,rfl,wpAny_letOwnedTupleGo_enum IG fun h₂ ZH ou=>?_⟩
  have ka:Heap.SameBut e h₁ h₂:=ou
  have il:e < s.heap.objs.size:=fq h1
  have Uw:s.heap.objs.size≠e:=BC il
  have kk:∀ b ob,b∉[e,it]→s.heap.get? b=some ob→h₂.get? b=some ob:=fun b ob hb q=>by
   have BF:b≠e:=fun z=>hb (by simp [z])
   exact (ka.2 b BF).trans (ZG b ob BF (fun z=>hb (by simp [z])) q)
  have new:cw X.prog X.w (upd H s.heap.objs.size (.tup [.int (i:Int),x])) h₂ s.heap.objs.size (.tup [.int (i:Int),x]) :=
   ⟨by show 2≤sizeLine; rw [sizeLine_eq]; decide,[.int i tk,u'],.cons ⟨_,rfl⟩ (.cons ru .nil),⟨_,(ka.2 _ Uw).trans ZF,rfl,_,rfl⟩⟩
  refine ⟨.ref s.heap.objs.size,upd H s.heap.objs.size (.tup [.int (i:Int),x]),I.grown (t':=tk+1) kk hf (dm _) new,rfl,⟨_,x,I.fresh,rfl,fun ys hy=>by rw [I.i6 hy hq]; exact hx,rfl⟩,⟨⟨u',?_⟩,?_⟩,fun b hb=>?_⟩
  · have:((i:Int)+1)=((i+1:Nat):Int):=by omega
    rw [← this]; exact ZH
  · obtain ⟨⟨o,q,r⟩,_⟩:=Pm
    exact ⟨o,(ka.2 it (Ne.symm eK)).trans q,r⟩
  · have SK:b < s.heap.objs.size:=by
     rcases cY.mp hb with z | z
     · subst z; exact il
     · have z':b=it:=by simpa using z
       subst z'
       obtain ⟨o,q,_⟩:=vo
       exact fq q
    rw [aA (j4 SK)]
    exact (hf b hb).1
 done:=by
  intro X hP hw hK hc i pins s σ H E I hf st hg
  subst hP hw hK
  obtain ⟨xs,hq,hx⟩:=hg
  obtain ⟨aP,rv,p,hz⟩:=I.tuple hq
  have hl:=rv.length
  obtain ⟨⟨old,h1⟩,vo⟩:=st
  obtain ⟨f0,f1,f2,f3,f4,f5⟩:=hf it (by simp)
  exact wpAny_pyNext_enum_endD (VM (show X.A.in1.handled=none from I.ok.hd hc) it a aP.toArray i (by simp; omega)) h1 ⟨rfl,vo,p⟩ fun h' eb=>⟨rfl,I.turned (t':=s.toks) (fun b o hb q=>eb b o hb q) f0 f1 f3 f4 f5⟩
 self:=fun _ _ _ _ _ st h=>by
  obtain ⟨⟨old,h1⟩,_⟩:=st
  exact wpAny_pyIter_enum h1 h
section
variable {X:Cx}
def Qw (K:KFr) (ta:TA):TI:=fun σ H R=>ta σ H fun vs H1=>∃ a,vs=[.ref a]∧(∃ xs,dG K H1 a xs)∧R (Qv K a) H1
theorem Ge {elts:List Expr} {x1} {tp:Pos} {a:Expr} {ta:TA} {p pos:Pos} (hg:Gl X "enumerate") (hm:X.mg "enumerate" = none) (ha:PA X [a] ta) (hs:starEach [a] X.env=[(false,eval a X.env)]:=by rfl) :
  PI X (.Tuple elts x1 tp) (.Call (.Name "enumerate" p) [a] [] pos) (Qw X.K ta):=by
 intro pins s σ H R I h
 refine Call_ (ip I hg hm L2.boot_enumerate (Sw (cm (ha pos pins s σ H _ I h) fun us s1 ⟨vs,H1,I1,r1,q1⟩=>?_) hs rfl))
 obtain ⟨b,e,⟨xs,hq⟩,q⟩:=q1
 subst e
 obtain ⟨u,rfl,ru⟩:=vals1 r1
 cases ru
 obtain ⟨aP,rv,pl,hz⟩:=I1.tuple hq
 have hb:b < s1.heap.objs.size:=by obtain ⟨o,ho,_⟩:=pl; exact fq ho
 refine Gd pl fun h' he hit hk=>wpAny_pyIter_enum he ?_
 refine ⟨s1.heap.objs.size+1,[s1.heap.objs.size+1,s1.heap.objs.size],_,_,H1,rfl,I1.kept (t':=s1.toks) hk,yS b _ _ (BC (DW _)) (BC (SA hb)) (j4 hb),⟨⟨_,he⟩,hit⟩,fun c hc=>?_,q⟩
 rcases cY.mp hc with z | z
 · subst z; exact I1.m4 (Ot _) (I1.cg.fresh (Ot _))
 · have z':c=s1.heap.objs.size:=by simpa using z
   subst z'; exact I1.m4 (dm _) I1.fresh
end
def Qx (f:FE):FI:=fun ρ Q=>f ρ fun t=>match t with
 | .tup ts=>Q (d_ ts)
 | _=>False
theorem Gf {K:KFr} {a:Addr} {ts:List T}:Wk K (Qv K a) [(.tup ts,.ref a)] (d_ ts):=fun H A hA h i=>by
 have h:=h _ c6
 simp only [At] at h
 obtain ⟨b,vs,e,l,q⟩:=h
 cases e
 have hl:=q.length
 have hle:(d_ ts).length=ts.length:=by unfold d_; rw [List.length_mapIdx]
 rw [hle]
 refine ⟨fun hi=>⟨vs,vs[i]'(by omega),l,by simp⟩,fun hi=>⟨vs,l,by omega⟩,fun t ht x H' y=>?_⟩
 obtain ⟨p,u,hp,rfl,hu,rfl⟩:=y
 unfold d_ at ht
 rw [XD] at ht
 cases e:ts[i]? with
 | none=>rw [e] at ht; cases ht
 | some t' =>
   rw [e] at ht
   cases ht
   obtain ⟨v,e1,e2⟩:=q.get e
   have:=hu vs l
   rw [e1] at this
   cases this
   exact ⟨aG hp,bX (dG.of aI) (az.cons bb (az.cons (e2.same (aG hp)) az.nil))⟩
theorem Gh {X:Cx} {Z:Zc} {a:Expr} {fa:FE} {p pos:Pos} {elts:List Expr} {x1} {tp:Pos} (hg:Gl X "enumerate") (hm:X.mg "enumerate" = none) (ha:VE X Z a fa) (hs:starEach [a] X.env=[(false,eval a X.env)]:=by rfl) :
  VI X Z (.Tuple elts x1 tp) (.Call (.Name "enumerate" p) [a] [] pos) (Qx fa):=.mk fun tm=>PI.weak (Ge hg hm (bw (ha tm) cO hs) hs) fun σ H R ⟨ρ,O,q,I,hf,k⟩=>⟨ρ,O,_,I,hf,fun t ht v H' s a=>by
 split at ht
 · have a0:=a
   simp only [At] at a
   obtain ⟨p,vs,rfl,l,_⟩:=a
   exact ⟨p,rfl,⟨vs,l⟩,k _ ht _ H' _ s (fun p hp=>by rw [kZ.mp hp]; exact a0) Gf⟩
 · exact ht.elim⟩
end VT
namespace Gen
open PySem L2 VT
open AG (bP)
theorem small {n:Nat} (h:n≤1000):n≤sizeLine:=Nat.le_of_lt (BZ h)
def qG (n:Int):Nat:=bP.cps.toList.getD (n % 26).toNat 0
theorem wA:bP.cps.toList.length=26:=by decide +kernel
theorem tX:bP.length=26:=by decide +kernel
theorem jE:bP.length≤sizeLine:=by rw [tX,sizeLine_eq]; decide
theorem rV (n:Int):kY bP.cps.toList (n % 26)=some (qG n):=by
 have h0:0≤n % 26:=qf n (by decide)
 have h1:n % 26 < 26:=qi n (by decide)
 unfold qG
 obtain ⟨j,hj⟩:=DU h0
 rw [hj]
 have il:j < bP.cps.toList.length:=by rw [wA]; omega
 refine ai ?_
 rw [xY,List.getD,qe il]
 rfl
inductive ju where
 | nm (x:Str)
 | nu (i:Int)
inductive Ky where
 | fld (x:Str)
 | op (o:ju)
inductive Rw where
 | df (f:Str) (ps:List Str)
 | give (a:ju)
 | put (x:Str) (a:ju)
 | kz (x:Str) (a:ju) (op:Str) (b:ju)
 | new (x:Str)
 | get (x r:Str) (k:Ky)
 | set (r:Str) (k:Ky) (a:ju)
 | call (x f:Str) (as:List ju)
 | fail (w:Str)
 | Qy (a:ju)
 | VN
 | Qz (a:ju)
 | fin
 | skip
def eM:ju→T
 | .nm x=>.str x
 | .nu i=>.int i
def IQ:Ky→T
 | .fld x=>.str ((("." : String):Str) ++ x)
 | .op o=>eM o
def a8:Rw→T
 | .df f ps=>.tup [.str "def",.str f,.tup (ps.map .str)]
 | .give a=>.tup [.str "give",eM a]
 | .put x a=>.tup [.str "put",.str x,eM a]
 | .kz x a op b=>.tup [.str "do",.str x,eM a,.str op,eM b]
 | .new x=>.tup [.str "new",.str x]
 | .get x r k=>.tup [.str "get",.str x,.str r,IQ k]
 | .set r k a=>.tup [.str "set",.str r,IQ k,eM a]
 | .call x f as=>.tup [.str "call",.str x,.str f,.tup (as.map eM)]
 | .fail w=>.tup [.str "fail",.str w]
 | .Qy a=>.tup [.str "if",eM a]
 | .VN=>.tup [.str "else"]
 | .Qz a=>.tup [.str "while",eM a]
 | .fin=>.tup [.str "end"]
 | .skip=>.tup [.str "skip"]
def wB (ys:List Str):ju→Prop
 | .nm x=>x∈ys
 | .nu i=>-1000000000000000000000000000000≤i∧i < 1000000000000000000000000000000
def reckon:List Str:=["plus","minus","times","over","rest","less","same"]
theorem Gi:(10:Int) ^ (30:Int).toNat=1000000000000000000000000000000:=by decide +kernel
theorem dW {α:Type} {f:α→T} (h:∀ x,plainT (f x)=true):∀ l:List α,bQ (l.map f)=true
 | []=>by simp [bQ]
 | x :: l=>by simp only [i5,bQ,h x,dW h l,Bool.and_self]
theorem gA {α:Type} {f:α→T} {n:Nat} (h:∀ x,dep (f x)≤n):∀ l:List α,fY (l.map f)≤n
 | []=>by simp [fY]
 | x :: l=>by have:=h x; have:=gA h l; simp only [i5,fY]; omega
theorem lQ (o:ju):plainT (eM o)=true:=by cases o <;> simp [eM,plainT]
theorem Cy (o:Ky):plainT (IQ o)=true:=by cases o with | fld x=>simp [IQ,plainT] | op o=>exact lQ o
theorem yT (r:Rw):plainT (a8 r)=true:=by
 cases r <;> simp [a8,plainT,bQ,lQ,Cy,dW (f:=T.str) (fun _=>by simp [plainT]),dW (f:=eM) lQ]
theorem tY (o:ju):dep (eM o)=0:=by cases o <;> simp [eM,dep]
theorem KR (o:Ky):dep (IQ o)=0:=by cases o with | fld x=>simp [IQ,dep] | op o=>exact tY o
theorem Gj (r:Rw):dep (a8 r)≤2:=by
 have h1:=fun l:List Str=>gA (f:=T.str) (n:=0) (fun _=>by simp [dep]) l
 have h2:=fun l:List ju=>gA (f:=eM) (n:=0) (fun o=>by simp [tY]) l
 cases r <;> simp [a8,dep,fY,tY,KR] <;> first | (rename_i x; have:=h1 x; omega) | (rename_i x; have:=h2 x; omega) | skip
theorem tZ (o:ju):bU (eM o)=true:=by cases o <;> simp [eM,bU]
theorem KS (o:Ky):bU (IQ o)=true:=by cases o with | fld x=>simp [IQ,bU] | op o=>exact tZ o
theorem eY {α:Type} {f:α→T} (h:∀ x,bU (f x)=true):∀ l:List α,eR (l.map f)=true
 | []=>by simp [eR]
 | x :: l=>by simp only [i5,eR,h x,eY h l,Bool.and_self]
theorem o5 (r:Rw):bU (a8 r)=true:=by
 cases r <;> simp [a8,bU,eR,tZ,KS,eY (f:=T.str) (fun _=>by simp [bU]),eY (f:=eM) tZ]
end Gen
namespace Gen
open PySem L2 VT
open AG (bP B2 c_)
theorem A6 (n:Int):B2 (qG n)=true:=by
 have h0:0≤n % 26:=qf n (by decide)
 have h1:n % 26 < 26:=qi n (by decide)
 have h:∀ j < 26,B2 (bP.cps.toList.getD j 0)=true:=by decide +kernel
 exact h _ (by omega)
theorem Gk {a b:Int} (h:qG a=qG b):a % 26=b % 26:=by
 have a0:0≤a % 26:=qf a (by decide)
 have a1:a % 26 < 26:=qi a (by decide)
 have b0:0≤b % 26:=qf b (by decide)
 have b1:b % 26 < 26:=qi b (by decide)
 have k:∀ i < 26,∀ j < 26,bP.cps.toList.getD i 0=bP.cps.toList.getD j 0→i=j:=by decide +kernel
 have:=k (a % 26).toNat (by omega) (b % 26).toNat (by omega) h
 omega
theorem yU {l:List Str} (nd:l.Nodup) {i j:Nat} (hi:i < l.length) (hj:j < l.length) (e:l[i]=l[j]):i=j:=by
 rw [List.Nodup,List.pairwise_iff_getElem] at nd
 rcases Nat.lt_trichotomy i j with h | h | h
 · exact absurd e (nd i j hi hj h)
 · exact h
 · exact absurd e.symm (nd j i hj hi h)
def wd:Rw→Str
 | .df _ _=>"def"
 | .give _=>"give"
 | .put _ _=>"put"
 | .kz _ _ _ _=>"do"
 | .new _=>"new"
 | .get _ _ _=>"get"
 | .set _ _ _=>"set"
 | .call _ _ _=>"call"
 | .fail _=>"fail"
 | .Qy _=>"if"
 | .VN=>"else"
 | .Qz _=>"while"
 | .fin=>"end"
 | .skip=>"skip"
theorem KU (r:Rw):∃ l,a8 r = .tup (.str (wd r) :: l):=by cases r <;> exact ⟨_,rfl⟩
theorem rW {α:Type} {f:α→T} {xs:List α} {h:FG} {g:FS} {d:EN} {ρ:En} (Pv:Nat→En→Prop) (h0:Pv 0 ρ) (hs:∀ (i:Nat) x ρ',xs[i]?=some x→Pv i ρ'→h (.tup [.int (i:Int),f x]) ρ' fun ρ2=>g { nx:=Pv (i+1),ct:=Pv (i+1),bk:=d.nx,rt:=d.rt } ρ2)
 (hd:∀ ρ',Pv xs.length ρ'→d.nx ρ'):mK (d_ (xs.map f)) h g d ρ:=⟨Pv,h0,fun i t ρ' e p=>by
   unfold d_ at e
   rw [XD,i4] at e
   cases q:xs[i]? with
   | none=>rw [q] at e; cases e
   | some x=>rw [q] at e; cases e; exact hs i x ρ' q p,fun ρ' p=>hd ρ' (by unfold d_ at p; rw [List.length_mapIdx,cU] at p; exact p)⟩
def Hd (x:Str):Prop:=x="if"∨x="while"∨x="else"
theorem Hd.ne {x:Str} (h:Hd x):x≠"def":=by rcases h with rfl | rfl | rfl <;> decide +kernel
def DR:List (Str×Nat)→Str→Option Nat
 | [],_=>none
 | (k,i) :: l,f=>if k=f then some i else DR l f
theorem A7 (l m:List (Str×Nat)) (f:Str):DR (l ++ m) f=match DR l f with
  | some i=>some i
  | none=>DR m f:=by
 induction l with
 | nil=>rfl
 | cons p l ih =>
   obtain ⟨k,i⟩:=p
   simp only [MC,DR]
   by_cases h:k=f
   · rw [if_pos h,if_pos h]
   · rw [if_neg h,if_neg h]; exact ih
def KW (l:List (Str×Nat)) (i:Nat):Rw→List (Str×Nat)
 | .df f _=>match DR l f with
   | some _=>l
   | none=>l ++ [(f,i)]
 | _=>l
def bj (rs:List Rw):Nat→List (Str×Nat)
 | 0=>[]
 | n+1=>match rs[n]? with
   | some r=>KW (bj rs n) n r
   | none=>bj rs n
theorem Cz {rs:List Rw} {f:Str} {i:Nat} {ps:List Str} (hi:rs[i]?=some (.df f ps)):∀ n,i < n→∃ j,DR (bj rs n) f=some j
 | 0,h=>absurd h (by omega)
 | n+1,h=>by
   simp only [bj]
   by_cases e:i=n
   · subst e
     rw [hi]
     simp only [KW]
     cases ha:DR (bj rs i) f with
     | some j=>exact ⟨j,ha⟩
     | none =>
       refine ⟨i,?_⟩
       simp only
       rw [A7,ha]
       simp only [DR,if_true]
   · obtain ⟨j,hj⟩:=Cz hi n (by omega)
     split
     · rename_i r hr
       cases r with
       | df g qs =>
         simp only [KW]
         split
         · exact ⟨j,hj⟩
         · rw [A7,hj]; exact ⟨j,rfl⟩
       | _=>exact ⟨j,hj⟩
     · exact ⟨j,hj⟩
end Gen
namespace K5
structure Kd where
 op:Bool
 cl:Bool
 el:Bool
 df:Bool
deriving DecidableEq,Inhabited
section
variable (kd:Nat→Kd)
def st:Nat→List Nat
 | 0=>[]
 | k+1=>let s:=if (kd k).cl=true then (st k).dropLast else st k
   if (kd k).op=true then s ++ [k] else s
def dp (k:Nat):Nat:=(st kd k).length
structure WF (n:Nat):Prop where
 ex:∀ k,k < n→(kd k).op=true→(kd k).cl=false
 cl:∀ k,k < n→(kd k).cl=true→st kd k≠[]
 el:∀ k,k < n→(kd k).el=true→st kd k≠[]
 nc:∀ k,k < n→(kd k).el=true→(kd k).cl=false∧(kd k).op=false
 dn:∀ k,k < n→(kd k).df=true→(kd k).op=true
 fin:st kd n=[]
end
section
variable {kd:Nat→Kd} {n:Nat}
theorem rX {k:Nat} (h:(kd k).op=true) (h':(kd k).cl=false):st kd (k+1)=st kd k ++ [k]:=by simp [st,h,h']
theorem o6 {k:Nat} (h:(kd k).cl=true) (h':(kd k).op=false):st kd (k+1)=(st kd k).dropLast:=by simp [st,h,h']
theorem wC {k:Nat} (h:(kd k).cl=false) (h':(kd k).op=false):st kd (k+1)=st kd k:=by simp [st,h,h']
theorem WF.YV (W:WF kd n) {k:Nat} (hk:k < n) (h:(kd k).cl=true):(kd k).op=false:=by
 cases q:(kd k).op with
 | false=>rfl
 | true=>rw [W.ex k hk q] at h; cases h
theorem A8 (W:WF kd n) {k:Nat} (hk:k < n) (h:(kd k).op=true):dp kd (k+1)=dp kd k+1:=by
 unfold dp; rw [rX h (W.ex k hk h)]; simp
theorem Gm (W:WF kd n) {k:Nat} (hk:k < n) (h:(kd k).cl=true):dp kd (k+1)+1=dp kd k:=by
 unfold dp; rw [o6 h (W.YV hk h),Te]
 have:0 < (st kd k).length:=List.length_pos_iff.mpr (W.cl k hk h)
 omega
theorem Gn {k:Nat} (h:(kd k).cl=false) (h':(kd k).op=false):dp kd (k+1)=dp kd k:=by unfold dp; rw [wC h h']
theorem NI (W:WF kd n):∀ k,k≤n→∀ i j,(st kd k)[i]?=some j→j < k∧(kd j).op=true∧dp kd j=i∧∀ m,j < m→m≤k→i < dp kd m
 | 0,_,i,j,h=>by simp [st] at h
 | k+1,hk,i,j,h=>by
   have ih:=NI W k (by omega)
   have A3:k < n:=by omega
   have ext:∀ {i j:Nat},(st kd k)[i]?=some j→i < dp kd (k+1)→j < k+1∧(kd j).op=true∧dp kd j=i∧∀ m,j < m→m≤k+1→i < dp kd m:=fun {i j} h hd=>by
    obtain ⟨a,b,c,d⟩:=ih i j h
    refine ⟨by omega,b,c,fun m h1 h2=>?_⟩
    by_cases e:m=k+1
    · rw [e]; exact hd
    · exact d m h1 (by omega)
   by_cases ho:(kd k).op=true
   · rw [rX ho (W.ex k A3 ho)] at h
     have hd:=A8 W A3 ho
     by_cases hi:i < (st kd k).length
     · rw [qh hi] at h
       exact ext h (by rw [hd]; exact SA hi)
     · rw [uX (by omega)] at h
       have e:i - (st kd k).length=0:=by
        cases q:i - (st kd k).length with
        | zero=>rfl
        | succ r=>rw [q] at h; simp at h
       rw [e] at h
       simp at h
       subst h
       have ei:i=dp kd k:=by unfold dp; omega
       refine ⟨by omega,ho,ei.symm,fun m h1 h2=>?_⟩
       have:m=k+1:=by omega
       rw [this,hd,ei]; omega
   · have nX:(kd k).op=false:=by cases q:(kd k).op <;> simp_all
     by_cases hc:(kd k).cl=true
     · rw [o6 hc nX] at h
       have hi:i < (st kd k).dropLast.length:=(fG.mp h).1
       have hd:dp kd (k+1)=(st kd k).dropLast.length:=by unfold dp; rw [o6 hc nX]
       rw [List.getElem?_dropLast,if_pos (by rw [Te] at hi; exact hi)] at h
       exact ext h (by rw [hd]; exact hi)
     · have nY:(kd k).cl=false:=by cases q:(kd k).cl <;> simp_all
       rw [wC nY nX] at h
       have hd:dp kd (k+1)=dp kd k:=Gn nY nX
       exact ext h (by rw [hd]; exact (fG.mp h).1)
theorem NJ (W:WF kd n) {j:Nat} (ho:(kd j).op=true):∀ k,j < k→k≤n→(∀ m,j < m→m≤k→dp kd j < dp kd m)→(st kd k)[dp kd j]?=some j
 | 0,h,_,_=>by omega
 | k+1,h,hk,hm=>by
   have A3:k < n:=by omega
   by_cases e:j=k
   · subst e
     rw [rX ho (W.ex j A3 ho)]
     unfold dp
     rw [uX (dm _)]
     simp
   · have ih:=NJ W ho k (by omega) (by omega) fun m h1 h2=>hm m h1 (by omega)
     have hd:=hm (k+1) (by omega) (dm _)
     by_cases nX:(kd k).op=true
     · rw [rX nX (W.ex k A3 nX),qh (fG.mp ih).1]; exact ih
     · have QA:(kd k).op=false:=by cases q:(kd k).op <;> simp_all
       by_cases hc:(kd k).cl=true
       · have hl:dp kd (k+1)=(st kd k).length - 1:=by unfold dp; rw [o6 hc QA,Te]
         rw [o6 hc QA,List.getElem?_dropLast,if_pos (by omega)]; exact ih
       · have nY:(kd k).cl=false:=by cases q:(kd k).cl <;> simp_all
         rw [wC nY QA]; exact ih
def jc (kd:Nat→Kd) (n d:Nat):Nat→Nat→Option Nat
 | 0,_=>none
 | f+1,k=>if k < n then (if dp kd (k+1)=d then some k else jc kd n d f (k+1)) else none
def endOf (kd:Nat→Kd) (n j:Nat):Option Nat:=jc kd n (dp kd j) (n - (j+1)) (j+1)
theorem kA {d:Nat}:∀ {f k e:Nat},jc kd n d f k=some e→k≤e∧e < n∧dp kd (e+1)=d∧∀ m,k≤m→m < e→dp kd (m+1)≠d
 | 0,_,_,h=>by cases h
 | f+1,k,e,h=>by
   simp only [jc] at h
   split at h
   · rename_i hk
     split at h
     · rename_i hd
       cases h
       exact ⟨dm _,hk,hd,fun m h1 h2=>by omega⟩
     · rename_i hd
       obtain ⟨a,b,c,r⟩:=kA h
       refine ⟨by omega,b,c,fun m h1 h2=>?_⟩
       by_cases em:m=k
       · rw [em]; exact hd
       · exact r m (by omega) h2
   · cases h
theorem kB {d:Nat}:∀ {f k:Nat},jc kd n d f k=none→∀ m,k≤m→m < k+f→m < n→dp kd (m+1)≠d
 | 0,k,_,m,h1,h2,_=>by omega
 | f+1,k,h,m,h1,h2,h3=>by
   simp only [jc] at h
   split at h
   · split at h
     · cases h
     · rename_i hd
       by_cases em:m=k
       · rw [em]; exact hd
       · exact kB h m (by omega) (by omega) h3
   · omega
theorem KY (W:WF kd n) {k:Nat} (hk:k < n):dp kd k≤dp kd (k+1)+1:=by
 by_cases ho:(kd k).op=true
 · rw [A8 W hk ho]; omega
 · have nX:(kd k).op=false:=by cases q:(kd k).op <;> simp_all
   by_cases hc:(kd k).cl=true
   · rw [Gm W hk hc]; exact dm _
   · have nY:(kd k).cl=false:=by cases q:(kd k).cl <;> simp_all
     rw [Gn nY nX]; omega
theorem above (W:WF kd n) {j:Nat} (hj:j < n) (ho:(kd j).op=true):∀ k,j < k→k≤n→(∀ m,j < m→m < k→dp kd (m+1)≠dp kd j)→∀ m,j < m→m≤k→dp kd j < dp kd m
 | 0,h,_,_,m,_,_=>by omega
 | k+1,h,hk,eK,m,h1,h2=>by
   by_cases em:m=k+1
   · subst em
     by_cases e:j=k
     · subst e; rw [A8 W hj ho]; omega
     · have ih:=above W hj ho k (by omega) (by omega) (fun m a b=>eK m a (by omega)) k (by omega) (dm _)
       have s:=KY W (k:=k) (by omega)
       have ne:=eK k (by omega) (by omega)
       omega
   · by_cases e:j=k
     · omega
     · exact above W hj ho k (by omega) (by omega) (fun m a b=>eK m a (by omega)) m h1 (by omega)
theorem end_is (W:WF kd n) {j:Nat} (hj:j < n) (ho:(kd j).op=true):∃ e,endOf kd n j=some e∧j < e∧e < n∧dp kd (e+1)=dp kd j∧∀ m,j < m→m < e→dp kd (m+1)≠dp kd j:=by
 cases h:endOf kd n j with
 | some e =>
   obtain ⟨a,b,c,d⟩:=kA h
   exact ⟨e,rfl,by omega,b,c,fun m h1 h2=>d m (by omega) h2⟩
 | none =>
   exfalso
   have q:=kB h
   have a:=above W hj ho n hj (dm _) (fun m h1 h2=>q m (by omega) (by omega) h2) n hj (dm _)
   have z:dp kd n=0:=by unfold dp; rw [W.fin]; rfl
   omega
theorem rY:∀ k,(st kd k).Pairwise (· < ·)∧∀ j∈st kd k,j < k
 | 0=>⟨List.Pairwise.nil,fun j h=>(by simp [st] at h)⟩
 | k+1=>by
   obtain ⟨h1,h2⟩:=rY k
   have base:∀ {s:List Nat},s.Sublist (st kd k)→s.Pairwise (· < ·)∧∀ j∈s,j < k:=fun sl=>⟨h1.sublist sl,fun j h=>h2 j (sl.subset h)⟩
   have key:∀ {s:List Nat},s.Sublist (st kd k)→(if (kd k).op=true then s ++ [k] else s).Pairwise (· < ·)∧∀ j∈(if (kd k).op=true then s ++ [k] else s),j < k+1:=fun {s} sl=>by
    obtain ⟨a,b⟩:=base sl
    split
    · refine ⟨List.pairwise_append.mpr ⟨a,List.pairwise_singleton _ _,fun x hx y hy=>by rw [kZ.mp hy]; exact b x hx⟩,fun j hj=>?_⟩
      rcases cA.mp hj with h | h
      · exact SA (b j h)
      · rw [kZ.mp h]; exact DW _
    · exact ⟨a,fun j hj=>SA (b j hj)⟩
   simp only [st]
   by_cases hc:(kd k).cl=true
   · rw [if_pos hc]; exact key (List.dropLast_sublist _)
   · rw [if_neg hc]; exact key (List.Sublist.refl _)
def endsAt (kd:Nat→Kd) (n j:Nat):Option Nat:=if (kd j).op=true then endOf kd n j else none
theorem KZ (W:WF kd n) {k j:Nat} (hk:k < n) (hc:(kd k).cl=true) (ht:(st kd k).getLast?=some j):endsAt kd n j=some k∧j < k:=by
 have hl:(st kd k)[(st kd k).length - 1]?=some j:=by rw [← Sx]; exact ht
 obtain ⟨a,b,c,d⟩:=NI W k (by omega) _ j hl
 obtain ⟨e,h1,h2,h3,h4,h5⟩:=end_is W (by omega) b
 refine ⟨?_,a⟩
 unfold endsAt
 rw [if_pos b,h1]
 congr 1
 have hd:=Gm W hk hc
 have yV:dp kd (k+1)=dp kd j:=by rw [c]; unfold dp at hd ⊢; omega
 rcases Nat.lt_or_ge e k with l | l
 · have:=d (e+1) (by omega) (by omega)
   omega
 · rcases Nat.lt_or_ge k e with l2 | l2
   · exact absurd yV (h5 k a l2)
   · omega
theorem A9 (W:WF kd n) {k j:Nat} (hk:k < n) (he:endsAt kd n j=some k) (hj:j < n):(kd k).cl=true∧(st kd k).getLast?=some j:=by
 unfold endsAt at he
 by_cases ho:(kd j).op=true
 · rw [if_pos ho] at he
   obtain ⟨e,h1,h2,h3,h4,h5⟩:=end_is W hj ho
   rw [h1] at he
   cases he
   have ab:=above W hj ho k h2 (by omega) fun m x y=>h5 m x y
   have A_:=ab k h2 (dm _)
   have hc:(kd k).cl=true:=by
    cases q:(kd k).cl with
    | true=>rfl
    | false =>
      exfalso
      by_cases nX:(kd k).op=true
      · rw [A8 W hk nX] at h4; omega
      · rw [Gn q (by cases r:(kd k).op <;> simp_all)] at h4; omega
   refine ⟨hc,?_⟩
   have hd:=Gm W hk hc
   have:=NJ W ho k h2 (by omega) ab
   rw [Sx]
   have e:(st kd k).length - 1=dp kd j:=by unfold dp at hd h4 ⊢; omega
   rw [e]; exact this
 · rw [if_neg ho] at he; cases he
end
end K5
namespace K5
open PySem L2 VT Gen
def wordOf:Rw→Str
 | .df _ _=>"def" | .give _=>"give" | .put _ _=>"put" | .kz _ _ _ _=>"do" | .new _=>"new" | .get _ _ _=>"get" | .set _ _ _=>"set" | .call _ _ _=>"call" | .fail _=>"fail"
 | .Qy _=>"if" | .VN=>"else" | .Qz _=>"while" | .fin=>"end" | .skip=>"skip"
theorem gB (r:Rw):∃ l,a8 r = .tup (.str (wordOf r) :: l):=by cases r <;> exact ⟨_,rfl⟩
def bt:Rw→Kd
 | .df _ _=>⟨true,false,false,true⟩
 | .give _=>⟨false,true,false,false⟩
 | .Qy _=>⟨true,false,false,false⟩
 | .VN=>⟨false,false,true,false⟩
 | .Qz _=>⟨true,false,false,false⟩
 | .fin=>⟨false,true,false,false⟩
 | _=>⟨false,false,false,false⟩
theorem VQ (r:Rw):decide (wordOf r="def")=(bt r).df:=by cases r <;> first | rfl | decide +kernel
theorem VU (r:Rw):decide (wordOf r="else")=(bt r).el:=by cases r <;> first | rfl | decide +kernel
theorem VY (r:Rw):Nh (.str (wordOf r)) [.str "give",.str "end"]=(bt r).cl:=by cases r <;> first | rfl | decide +kernel
theorem VZ (r:Rw):Nh (.str (wordOf r)) [.str "def",.str "if",.str "while"]=(bt r).op:=by cases r <;> first | rfl | decide +kernel
def dD (rs:List Rw) (k:Nat):Kd:=match rs[k]? with
 | some r=>bt r
 | none=>⟨false,false,false,false⟩
theorem lT {rs:List Rw} {k:Nat} {r:Rw} (h:rs[k]?=some r):dD rs k=bt r:=by unfold dD; rw [h]
def K0 (rs:List Rw):Prop:=WF (dD rs) rs.length
def oT:Option Nat→T
 | none=>.aT
 | some k=>.int (k:Int)
def tab (f:Nat→Option Nat) (n k:Nat):List T:=(List.range n).map fun i=>if i < k then oT (f i) else .aT
def ie (e:Nat→Option Nat) (n k:Nat):List T:=(List.range n).map fun j=>match e j with
 | some m=>if m < k then .int (m:Int) else .aT
 | none=>.aT
theorem kD (f n k):(tab f n k).length=n:=by simp [tab]
theorem wD (f n k):(ie f n k).length=n:=by simp [ie]
theorem wF (f n):tab f n 0=List.replicate n .aT:=by
 unfold tab
 rw [List.eq_replicate_iff]
 exact ⟨by simp,fun x hx=>by simp at hx; exact hx.2.symm⟩
theorem CA (f n):ie f n 0=List.replicate n .aT:=by
 unfold ie
 rw [List.eq_replicate_iff]
 refine ⟨by simp,fun x hx=>?_⟩
 obtain ⟨j,_,rfl⟩:=vd.mp hx
 split <;> simp
theorem nQ {f:Nat→Option Nat} {n k:Nat}:(tab f n k).set k (oT (f k))=tab f n (k+1):=by
 refine SD fun i=>?_
 rw [Tg,kD]
 unfold tab
 rw [i4,i4]
 by_cases hi:i < n
 · rw [Xx hi]
   by_cases e:k=i
   · subst e; rw [if_pos rfl,if_pos hi]; simp
   · rw [if_neg e]
     simp only [Ti]
     by_cases l:i < k
     · rw [if_pos l,if_pos (by omega)]
     · rw [if_neg l,if_neg (by omega)]
 · rw [IX (by simp; omega)]
   split
   · rw [if_neg (by omega)]; rfl
   · rfl
theorem wG {f:Nat→Option Nat} {n k:Nat} (h:f k=none):tab f n k=tab f n (k+1):=by
 unfold tab
 refine XG fun i _=>?_
 by_cases e:i=k
 · subst e; rw [if_neg (DG _),if_pos (DW _),h]; rfl
 · by_cases l:i < k
   · rw [if_pos l,if_pos (by omega)]
   · rw [if_neg l,if_neg (by omega)]
theorem wH (f n):tab f n n=(List.range n).map fun i=>oT (f i):=by
 unfold tab
 exact XG fun i hi=>by rw [if_pos (IE.mp hi)]
theorem Gp {e:Nat→Option Nat} {n k j:Nat} (h:e j=some k) (u:∀ i,i < n→e i=some k→i=j):(ie e n k).set j (.int (k:Int))=ie e n (k+1):=by
 refine SD fun i=>?_
 rw [Tg,wD]
 unfold ie
 rw [i4,i4]
 by_cases hi:i < n
 · rw [List.getElem?_range hi]
   by_cases q:j=i
   · subst q; rw [if_pos rfl,if_pos hi]; simp [h]
   · rw [if_neg q]
     simp only [Ti]
     cases r:e i with
     | none=>rfl
     | some m =>
       have:m≠k:=fun z=>q (u i hi (by rw [r,z])).symm
       simp only
       by_cases l:m < k
       · rw [if_pos l,if_pos (by omega)]
       · rw [if_neg l,if_neg (by omega)]
 · rw [IX (by simp; omega)]
   split
   · rw [if_neg (by omega)]; rfl
   · rfl
theorem CB {e:Nat→Option Nat} {n k:Nat} (u:∀ i,i < n→e i≠some k):ie e n k=ie e n (k+1):=by
 unfold ie
 refine XG fun i hi=>?_
 cases r:e i with
 | none=>rfl
 | some m =>
   have:m≠k:=fun z=>u i (IE.mp hi) (by rw [r,z])
   simp only
   by_cases l:m < k
   · rw [if_pos l,if_pos (by omega)]
   · rw [if_neg l,if_neg (by omega)]
theorem CC {e:Nat→Option Nat} {n:Nat} (h:∀ j m,j < n→e j=some m→m < n):ie e n n=(List.range n).map fun i=>oT (e i):=by
 unfold ie
 refine XG fun i hi=>?_
 cases r:e i with
 | none=>rfl
 | some m=>simp only; rw [if_pos (h i m (IE.mp hi) r)]; rfl
section
variable (kd:Nat→Kd)
def Gq (k:Nat):Option Nat:=(st kd k).getLast?
def x5 (k:Nat):Option Nat:=if (kd k).df=true then some k else (st kd k).head?
def yW (n:Nat):Nat→List T
 | 0=>List.replicate n .aT
 | k+1=>match (kd k).el,Gq kd k with
   | true,some h=>(yW n k).set h (.int (k:Int))
   | _,_=>yW n k
end
theorem t4 (kd n):∀ k,(yW kd n k).length=n
 | 0=>by simp [yW]
 | k+1=>by
   simp only [yW]
   split
   · rw [ID]; exact t4 kd n k
   · exact t4 kd n k
def Gr (rs:List Rw):List T:=[.lst ((List.range rs.length).map fun i=>oT (Gq (dD rs) i)),.lst ((List.range rs.length).map fun i=>oT (endsAt (dD rs) rs.length i)),.lst (yW (dD rs) rs.length rs.length),.lst ((List.range rs.length).map fun i=>oT (x5 (dD rs) i))]
theorem Gs (rs:List Rw):d_ (rs.map a8)=(rs.zipIdx).map fun p=>.tup [.int (p.2:Int),a8 p.1]:=by
 unfold d_
 refine SD fun i=>?_
 rw [XD,i4,i4,List.getElem?_zipIdx]
 cases rs[i]? <;> simp
def dr:Nat→List Rw→Option Nat
 | d,[]=>some d
 | d,r :: rs=>if (bt r).cl=true then (if d=0 then none else dr (d - 1) rs) else if (bt r).el=true then (if d=0 then none else dr d rs) else if (bt r).op=true then dr (d+1) rs else dr d rs
theorem gW:∀ (a b:List Rw) (d:Nat),dr d (a ++ b)=(dr d a).bind fun e=>dr e b
 | [],b,d=>rfl
 | r :: a,b,d=>by
   simp only [MC,dr]
   split
   · split
     · rfl
     · exact gW a b _
   · split
     · split
       · rfl
       · exact gW a b _
     · split
       · exact gW a b _
       · exact gW a b _
theorem QB (rs:List Rw) {k:Nat} {r:Rw} (h:rs[k]?=some r):(st (dD rs) (k+1)).length=(if (bt r).cl=true then (st (dD rs) k).length - 1 else if (bt r).op=true then (st (dD rs) k).length+1 else (st (dD rs) k).length):=by
 have mO:=lT h
 by_cases hc:(bt r).cl=true
 · have ho:(bt r).op=false:=by cases r <;> first | rfl | (cases hc)
   rw [if_pos hc,o6 (by rw [mO]; exact hc) (by rw [mO]; exact ho),Te]
 · have nY:(bt r).cl=false:=by cases q:(bt r).cl <;> simp_all
   rw [if_neg hc]
   by_cases ho:(bt r).op=true
   · rw [if_pos ho,rX (by rw [mO]; exact ho) (by rw [mO]; exact nY)]; simp
   · rw [if_neg ho,wC (by rw [mO]; exact nY) (by rw [mO]; cases q:(bt r).op <;> simp_all)]
theorem nR {rs:List Rw} (h:dr 0 rs=some 0):∀ k,k≤rs.length→dr 0 (rs.take k)=some (st (dD rs) k).length
 | 0,_=>rfl
 | k+1,hk=>by
   have ih:=nR h k (by omega)
   have e:rs[k]?=some rs[k]:=by simp
   have et:rs.take (k+1)=rs.take k ++ [rs[k]]:=by rw [List.take_succ,e]; rfl
   have hs:(dr 0 (rs.take (k+1))).isSome=true:=by
    rw [← List.take_append_drop (k+1) rs,gW] at h
    cases q:dr 0 (rs.take (k+1)) with
    | some _=>rfl
    | none=>rw [q] at h; cases h
   rw [et,gW,ih,Option.bind_some] at hs ⊢
   rw [QB rs e]
   simp only [dr] at hs ⊢
   by_cases hc:(bt rs[k]).cl=true
   · rw [if_pos hc,if_pos hc] at *
     by_cases z:(st (dD rs) k).length=0
     · rw [if_pos z] at hs; cases hs
     · rw [if_neg z]
   · rw [if_neg hc,if_neg hc] at *
     by_cases hl:(bt rs[k]).el=true
     · have ho:¬ (bt rs[k]).op=true:=by
        generalize rs[k]=r at hl
        cases r <;> first | (cases hl; done) | (intro z; cases z)
       rw [if_pos hl,if_neg ho] at *
       by_cases z:(st (dD rs) k).length=0
       · rw [if_pos z] at hs; cases hs
       · rw [if_neg z]
     · rw [if_neg hl] at *
       split <;> rfl
theorem NK {rs:List Rw} (h:dr 0 rs=some 0):K0 rs:=by
 have at':∀ {k:Nat},k < rs.length→∃ r,rs[k]?=some r∧dD rs k=bt r:=fun {k} hk=>⟨rs[k],by simp,lT (by simp)⟩
 have step:∀ {k:Nat} {r:Rw},rs[k]?=some r→(bt r).cl=true∨(bt r).el=true→st (dD rs) k≠[]:=fun {k r} hr Us z=>by
  have hk:k < rs.length:=(fG.mp hr).1
  have h1:=nR h k (by omega)
  have h2:=nR h (k+1) (by omega)
  have et:rs.take (k+1)=rs.take k ++ [r]:=by rw [List.take_succ,hr]; rfl
  rw [et,gW,h1,Option.bind_some,z] at h2
  simp only [dr,Om] at h2
  rcases Us with q | q
  · rw [if_pos q,if_pos True.intro] at h2; cases h2
  · by_cases q2:(bt r).cl=true
    · rw [if_pos q2,if_pos True.intro] at h2; cases h2
    · rw [if_neg q2,if_pos q,if_pos True.intro] at h2; cases h2
 refine ⟨fun k hk ho=>?_,fun k hk hc=>?_,fun k hk hc=>?_,fun k hk hc=>?_,fun k hk hc=>?_,?_⟩
 · obtain ⟨r,hr,e⟩:=at' hk
   rw [e] at ho ⊢
   cases r <;> first | rfl | (cases ho)
 · obtain ⟨r,hr,e⟩:=at' hk
   exact step hr (.inl (by rw [← e]; exact hc))
 · obtain ⟨r,hr,e⟩:=at' hk
   exact step hr (.inr (by rw [← e]; exact hc))
 · obtain ⟨r,hr,e⟩:=at' hk
   rw [e] at hc ⊢
   cases r <;> first | exact ⟨rfl,rfl⟩ | (cases hc)
 · obtain ⟨r,hr,e⟩:=at' hk
   rw [e] at hc ⊢
   cases r <;> first | rfl | (cases hc)
 · have:=nR h rs.length (dm _)
   rw [List.take_length,h] at this
   exact Xy.mp (Option.some.inj this).symm
end K5
namespace Lay
open PySem L2 VT Gen K5
def SX (l:List (Str×Nat)):T:=.dk (l.map fun p=>(Sum.inr p.1:Key)) (l.map fun p=>T.int (p.2:Int))
theorem QC (l:List (Str×Nat)) (f:Str):bY (l.map fun p=>(Sum.inr p.1:Key)) (l.map fun p=>T.int (p.2:Int)) (Sum.inr f)=(DR l f).map fun i=>T.int (i:Int):=by
 induction l with
 | nil=>rfl
 | cons p l ih =>
   obtain ⟨k,i⟩:=p
   simp only [i5,bY,DR]
   by_cases h:k=f
   · rw [if_pos h,if_pos (by rw [h])]; rfl
   · rw [if_neg h,if_neg (fun z=>h (Sum.inr.inj z))]; exact ih
theorem o7 (rs:List Rw):∀ n,(bj rs n).length≤n
 | 0=>dm _
 | n+1=>by
   have:=o7 rs n
   simp only [bj]
   split
   · rename_i r _
     cases r <;> simp only [KW] <;> first
      | omega
      | (split <;> simp <;> omega)
   · omega
def yX:Rw→Bool
 | .df _ _=>true
 | _=>false
def dN (rs:List Rw):Option Nat:=rs.findIdx? yX
theorem rZ (rs:List Rw):∀ n,∀ p∈bj rs n,p.2 < n∧∃ ps,rs[p.2]?=some (.df p.1 ps)
 | 0,p,h=>nomatch h
 | n+1,p,h=>by
   have old:p∈bj rs n→p.2 < n+1∧∃ ps,rs[p.2]?=some (.df p.1 ps):=fun h=>by
    have:=rZ rs n p h
    exact ⟨by omega,this.2⟩
   simp only [bj] at h
   split at h
   · rename_i r hr
     cases r with
     | df g ps =>
       simp only [KW] at h
       split at h
       · exact old h
       · rcases cA.mp h with z | z
         · exact old z
         · rw [kZ] at z
           subst z
           exact ⟨DW _,ps,hr⟩
     | _=>exact old h
   · exact old h
theorem fR {rs:List Rw} {i:Nat} (h:∀ j,j < i→∀ f ps,rs[j]?≠some (.df f ps)):∀ n≤i,bj rs n=[]
 | 0,_=>rfl
 | n+1,hn=>by
   simp only [bj]
   split
   · rename_i r hr
     rw [fR h n (by omega)]
     cases r with
     | df g ps=>exact absurd hr (h n (by omega) g ps)
     | _=>rfl
   · exact fR h n (by omega)
theorem iF {rs:List Rw} {i:Nat} {g:Str} {ps:List Str} (hi:rs[i]?=some (.df g ps)) (h:∀ j,j < i→∀ f ps,rs[j]?≠some (.df f ps)):∀ n,i < n→∃ l,bj rs n=(g,i) :: l
 | 0,hn=>absurd hn (Nat.not_lt_zero _)
 | n+1,hn=>by
   by_cases e:i=n
   · subst e
     refine ⟨[],?_⟩
     simp only [bj,hi,KW]
     rw [fR h i (dm _)]
     rfl
   · obtain ⟨l,hl⟩:=iF hi h n (by omega)
     simp only [bj]
     rw [hl]
     split
     · rename_i r _
       cases r with
       | df f qs =>
         simp only [KW]
         split
         · exact ⟨l,rfl⟩
         · exact ⟨l ++ [(f,n)],rfl⟩
       | _=>exact ⟨l,rfl⟩
     · exact ⟨l,rfl⟩
theorem K1 {r:Rw} (h:yX r=true):∃ f ps,r = .df f ps:=by
 cases r with
 | df f ps=>exact ⟨f,ps,rfl⟩
 | _=>cases h
theorem r0 {rs:List Rw} {i:Nat} (h:dN rs=some i):(∃ f ps,rs[i]?=some (.df f ps))∧∀ j,j < i→∀ f ps,rs[j]?≠some (.df f ps):=by
 unfold dN at h
 rw [List.findIdx?_eq_some_iff_getElem] at h
 obtain ⟨hl,h1,h2⟩:=h
 obtain ⟨f,ps,e⟩:=K1 h1
 refine ⟨⟨f,ps,by rw [qe hl,e]⟩,fun j hj f ps e=>?_⟩
 obtain ⟨Yg,ej⟩:=fG.mp e
 have:=h2 j hj
 rw [ej] at this
 exact this rfl
theorem CD {rs:List Rw} (h:dN rs=none):∀ (j:Nat) f ps,rs[j]?≠some (Rw.df f ps):=by
 unfold dN at h
 rw [List.findIdx?_eq_none_iff] at h
 intro j f ps e
 have:=h _ (ik e)
 cases this
theorem yY {rs:List Rw} (h:dN rs=none):bj rs rs.length=[]:=fR (i:=rs.length) (fun j _=>CD h j) _ (dm _)
theorem Gu {rs:List Rw} {m:Int} (h1:m∈(bj rs rs.length).map fun p=>(p.2:Int)) (h2:∀ i∈(bj rs rs.length).map fun p=>(p.2:Int),m≤i):T.int m=oT (dN rs):=by
 cases e:dN rs with
 | none=>rw [yY e] at h1; cases h1
 | some i =>
   obtain ⟨⟨g,ps,hi⟩,hm⟩:=r0 e
   obtain ⟨l,hl⟩:=iF hi hm rs.length (fG.mp hi).1
   obtain ⟨p,hp,rfl⟩:=vd.mp h1
   obtain ⟨_,qs,hq⟩:=rZ rs _ p hp
   have le1:(p.2:Int)≤(i:Int):=h2 _ (vd.mpr ⟨(g,i),by rw [hl]; exact c6,rfl⟩)
   have le2:¬ p.2 < i:=fun z=>hm _ z _ _ hq
   have:p.2=i:=by omega
   rw [this]
   rfl
def K2 (rs:List Rw):List T:=(List.range rs.length).map fun i=>oT (Gq (dD rs) i)
def NL (rs:List Rw):List T:=(List.range rs.length).map fun i=>oT (endsAt (dD rs) rs.length i)
def V0 (rs:List Rw):List T:=yW (dD rs) rs.length rs.length
def V1 (rs:List Rw):List T:=(List.range rs.length).map fun i=>oT (x5 (dD rs) i)
theorem Gv (rs:List Rw):Gr rs=[.lst (K2 rs),.lst (NL rs),.lst (V0 rs),.lst (V1 rs)]:=rfl
def dc (C:Addr) (rs:List Rw):T:=.ins C ["program","heads","ends","elses","homes","defs","main"] [.lst (rs.map a8),.lst (K2 rs),.lst (NL rs),.lst (V0 rs),.lst (V1 rs),SX (bj rs rs.length),oT (dN rs)]
section
variable {rs:List Rw} {i:Nat}
theorem o8 {r:Rw} (h:rs[i]?=some r):kY (rs.map a8) (i:Int)=some (a8 r):=ai (by rw [i4,h]; rfl)
theorem QD (h:i < rs.length):kY (K2 rs) (i:Int)=some (oT (Gq (dD rs) i)):=ai (by unfold K2; rw [i4,Xx h]; rfl)
end
end Lay
set_option exponentiation.threshold 4000
namespace Run
open PySem L2 VT Gen K5 Lay
open AG (c_)
def V2:Rw→Bool
 | .give _=>true
 | _=>false
theorem cf {n:Nat} (h:n≤1000):n≤sizeLine:=Gen.small h
def cv (i:Int):Int:=(i+1000000000000000000000000000000) % (2 * 1000000000000000000000000000000) - 1000000000000000000000000000000
def RI (i:Int):Prop:=-1000000000000000000000000000000≤i∧i < 1000000000000000000000000000000
theorem t5 (i:Int):RI (cv i):=by unfold RI cv; omega
theorem RI0:RI 0:=by unfold RI; decide
theorem RI1:RI 1:=by unfold RI; decide
structure Ev where
 ks:List Key
 is:List Int
def Ev.ts (e:Ev):List T:=e.is.map .int
def Ev.get (e:Ev) (x:Str):Int:=(bY e.ks e.is (.inr x)).getD 0
def Ev.put (e:Ev) (x:Str) (v:Int):Ev:=⟨eE e.ks (.inr x),cc e.ks e.is (.inr x) v⟩
def ev0:Ev:=⟨[],[]⟩
theorem o9 {α β:Type} (f:α→β):∀ (ks:List Key) (is:List α) (k:Key),bY ks (is.map f) k=(bY ks is k).map f
 | [],is,k=>by cases is <;> rfl
 | a :: ks,[],k=>rfl
 | a :: ks,i :: is,k=>by
   simp only [i5,bY]
   split
   · rfl
   · exact o9 f ks is k
theorem CF {α β:Type} (f:α→β) (ks:List Key) (is:List α) (k:Key) (v:α):cc ks (is.map f) k (f v)=(cc ks is k v).map f:=by
 unfold cc
 split
 · rw [List.zipWith_map_right,List.map_zipWith]
   congr 1
   funext a b
   split <;> rfl
 · simp
theorem Gw (e:Ev) (x:Str):(bY e.ks e.ts (.inr x)).getD (.int 0) = .int (e.get x):=by
 unfold Ev.ts Ev.get
 rw [o9]
 cases bY e.ks e.is (.inr x) <;> rfl
theorem jR (e:Ev) (x:Str) (v:Int):cc e.ks e.ts (.inr x) (.int v)=(e.put x v).ts:=CF T.int e.ks e.is (.inr x) v
structure gd (e:Ev) (n:Nat):Prop where
 n:e.is.length≤n
 ri:∀ i∈e.is,RI i
theorem r_ {α:Type} (ks:List Key) (is:List α) (k:Key) (v:α):(cc ks is k v).length≤is.length+1:=by
 unfold cc
 split
 · rw [XF]; omega
 · simp
theorem CG {α:Type} {ks:List Key} {is:List α} {k:Key} {v i:α} (h:i∈cc ks is k v):i∈is∨i=v:=by
 unfold cc at h
 split at h
 · rw [List.mem_iff_getElem?] at h
   obtain ⟨j,hj⟩:=h
   rw [List.getElem?_zipWith] at hj
   cases e1:ks[j]? with
   | none=>rw [e1] at hj; cases hj
   | some a =>
     cases e2:is[j]? with
     | none=>rw [e1,e2] at hj; cases hj
     | some b =>
       rw [e1,e2] at hj
       have Ng:(if a=k then v else b)=i:=Option.some.inj hj
       split at Ng
       · exact .inr Ng.symm
       · exact .inl (by rw [← Ng]; exact ik e2)
 · rcases cA.mp h with z | z
   · exact .inl z
   · exact .inr (kZ.mp z)
theorem gd.put {e:Ev} {n:Nat} (h:gd e n) (x:Str) {v:Int} (hv:RI v):gd (e.put x v) (n+1):=by
 refine ⟨?_,fun i hi=>?_⟩
 · have:=r_ e.ks e.is (.inr x) v
   have:=h.n
   show (cc e.ks e.is (.inr x) v).length≤n+1
   omega
 · rcases CG hi with z | z
   · exact h.ri i z
   · rw [z]; exact hv
theorem wI {α:Type}:∀ {ks:List Key} {is:List α} {k:Key} {v:α},bY ks is k=some v→v∈is
 | [],is,k,v,h=>by cases is <;> cases h
 | a :: ks,[],k,v,h=>by cases h
 | a :: ks,i :: is,k,v,h=>by
   simp only [bY] at h
   split at h
   · cases h; exact c6
   · exact eB _ (wI h)
theorem gd.get {e:Ev} {n:Nat} (h:gd e n) (x:Str):RI (e.get x):=by
 unfold Ev.get
 cases g:bY e.ks e.is (.inr x) with
 | none=>exact RI0
 | some v=>exact h.ri v (wI g)
def ba (e:Ev):ju→Int
 | .nm x=>e.get x
 | .nu i=>i
def t6:ju→Prop
 | .nm x=>c_ x=true∧x.length≤100
 | .nu i=>RI i
theorem gd.look {e:Ev} {n:Nat} (h:gd e n) {o:ju} (ho:t6 o):RI (ba e o):=by
 cases o with
 | nm x=>exact h.get x
 | nu i=>exact ho
def t7 (op:Str) (x y:Int):Option Int :=
 if op="plus" then some (cv (x+y)) else if op="minus" then some (cv (x - y)) else if op="times" then some (cv (x * y)) else if op="less" then some (if x < y then 1 else 0) else if op="same" then some (if x=y then 1 else 0)
 else if y=0 then none else if op="over" then some (cv (x.fdiv y)) else some (cv (x.fmod y))
theorem Gx {op:Str} {x y v:Int} (h:t7 op x y=some v):RI v:=by
 unfold t7 at h
 repeat' split at h
 all_goals (cases h)
 all_goals first | exact t5 _ | exact RI0 | exact RI1
def oI:Option Int→T
 | some i=>.int i
 | none=>.aT
theorem QE (o:Option Int):bU (oI o)=true:=by cases o <;> rfl
abbrev Res:=List T×T
def jF (v:Int):T:=.tup [.str "done",.int v]
def wJ:T:=.tup [.str "fault",.str "zero"]
def ig:T:=.tup [.str "cut",.int 0]
def Gy (p:Nat) (e:Ev) (ps:List Str):T:=.tup [.int (p:Int),.tup (ps.map fun x=>.int (e.get x)),.aT]
def CH (p:Nat) (v:Int):T:=.tup [.int (p:Int),.tup [.int v],.int v]
def CI (p:Nat) (x y:Int) (o:Option Int):T:=.tup [.int (p:Int),.tup [.int x,.int y],oI o]
def bK (most:Nat):List Rw→Nat→Ev→List T→Res
 | [],_,_,dn=>(dn,jF 0)
 | r :: rs,p,e,dn=>match r with
   | .skip=>bK most rs (p+1) e dn
   | .df _ ps=>if most≤dn.length then (dn,ig) else bK most rs (p+1) e (dn ++ [Gy p e ps])
   | .put x a=>if most≤dn.length then (dn,ig) else bK most rs (p+1) (e.put x (ba e a)) (dn ++ [CH p (ba e a)])
   | .kz x a op b=>if most≤dn.length then (dn,ig) else match t7 op (ba e a) (ba e b) with
     | none=>(dn ++ [CI p (ba e a) (ba e b) none],wJ)
     | some v=>bK most rs (p+1) (e.put x v) (dn ++ [CI p (ba e a) (ba e b) (some v)])
   | .give a=>if most≤dn.length then (dn,ig) else (dn ++ [CH p (ba e a)],jF (ba e a))
   | _=>(dn,jF 0)
def jv (most:Nat) (r:Res):Res:=if most < r.1.length then (r.1.take most,ig) else r
theorem t8 (most:Nat):∀ (rs:List Rw) (p:Nat) (e:Ev) (dn:List T),∃ l,(bK most rs p e dn).1=dn ++ l
 | [],p,e,dn=>⟨[],by simp [bK]⟩
 | r :: rs,p,e,dn=>by
   have stop:∃ l,dn=dn ++ l:=⟨[],by simp⟩
   have more:∀ (p:Nat) (e:Ev) (t:T),∃ l,(bK most rs p e (dn ++ [t])).1=dn ++ l:=fun p e t=>by
    obtain ⟨l,h⟩:=t8 most rs p e (dn ++ [t])
    exact ⟨t :: l,by rw [h]; simp⟩
   cases r with
   | skip=>exact t8 most rs (p+1) e dn
   | df f ps=>simp only [bK]; split; exact stop; exact more _ _ _
   | put x a=>simp only [bK]; split; exact stop; exact more _ _ _
   | kz x a op b =>
     simp only [bK]
     split
     · exact stop
     · split
       · exact ⟨_,rfl⟩
       · exact more _ _ _
   | give a=>simp only [bK]; split; exact stop; exact ⟨_,rfl⟩
   | _=>exact stop
theorem Gz {most:Nat} {dn l:List T} {en:T} (h:most≤dn.length) (h2:dn.length≤most) (hl:0 < l.length):jv most (dn ++ l,en)=(dn,ig):=by
 unfold jv
 have e:most=dn.length:=by omega
 subst e
 rw [if_pos (by simp; omega)]
 simp
theorem K3 {most:Nat} {rs:List Rw} {p:Nat} {e:Ev} {dn:List T} {t:T} {N:Nat} (h:most≤dn.length) (h2:dn.length≤most):(dn,ig)=jv most (bK N rs p e (dn ++ [t])):=by
 obtain ⟨l,hl⟩:=t8 N rs p e (dn ++ [t])
 have:bK N rs p e (dn ++ [t])=(dn ++ (t :: l),(bK N rs p e (dn ++ [t])).2):=by rw [← Prod.eta (bK N rs p e (dn ++ [t])),hl]; simp
 rw [this,Gz h h2 (by simp)]
theorem t9 {most:Nat} {dn:List T} {en:T} (h:dn.length≤most):(dn,en)=jv most (dn,en):=by
 unfold jv
 rw [if_neg (by show ¬ most < dn.length; omega)]
theorem t_ {most N:Nat}:∀ (rs:List Rw) (p:Nat) (e:Ev) (dn:List T),dn.length≤most→dn.length+rs.length≤N→bK most rs p e dn=jv most (bK N rs p e dn)
 | [],p,e,dn,h,hN=>t9 h
 | r :: rs,p,e,dn,h,hN=>by
   have hN':dn.length+rs.length+1≤N:=by simpa [Nat.add_assoc] using hN
   have hl:∀ t:T,(dn ++ [t]).length=dn.length+1:=fun t=>by simp
   have nn:¬ N≤dn.length:=by omega
   have go:∀ (e:Ev) (t:T),(if most≤dn.length then (dn,ig) else bK most rs (p+1) e (dn ++ [t]))=jv most (bK N rs (p+1) e (dn ++ [t])):=fun e t=>by
    split
    · exact K3 (by assumption) h
    · exact t_ rs (p+1) e (dn ++ [t]) (by rw [hl]; omega) (by rw [hl]; omega)
   have one:∀ (t en:T),(if most≤dn.length then (dn,ig) else (dn ++ [t],en))=jv most (dn ++ [t],en):=fun t en=>by
    split
    · rw [Gz (by assumption) h (by simp)]
    · exact t9 (by rw [hl]; omega)
   cases r with
   | skip=>exact t_ rs (p+1) e dn h (by omega)
   | df f ps=>simp only [bK]; rw [if_neg nn]; exact go _ _
   | put x a=>simp only [bK]; rw [if_neg nn]; exact go _ _
   | kz x a op b =>
     simp only [bK]
     rw [if_neg nn]
     cases t7 op (ba e a) (ba e b) with
     | none=>exact one _ _
     | some v=>exact go _ _
   | give a=>simp only [bK]; rw [if_neg nn]; exact one _ _
   | _=>exact t9 h
def K4 (cF:Addr) (e:Ev):S:=.ins cF ["call","names"] [.lf .aT,.dk e.ks e.ts]
def Yl (cF:Addr) (e:Ev):T:=.ins cF ["call","names"] [.aT,.dk e.ks e.ts]
def ms (cM cF:Addr) (L:T) (most:Int) (fr:List Ev) (dn:List T) (pl en:T):S:=.ins cM mN [.lf L,.lf (.int most),.lf .aT,.lst (fr.map (K4 cF)),.dk [] [],.dk [] [],.lst (dn.map .lf),.lf pl,.lf en]
def mt (cM cF:Addr) (L:T) (most:Int) (fr:List Ev) (dn:List T) (pl en:T):T:=.ins cM mN [L,.int most,.aT,.lst (fr.map (Yl cF)),.dk [] [],.dk [] [],.lst dn,pl,en]
theorem NM (cF:Addr):∀ fr:List Ev,S.ts (fr.map (K4 cF))=fr.map (Yl cF)
 | []=>by simp [S.ts]
 | e :: fr=>by simp [S.ts,NM cF fr,K4,Yl,S.t]
theorem NN:∀ dn:List T,S.ts (dn.map .lf)=dn
 | []=>by simp [S.ts]
 | e :: fr=>by simp [S.ts,NN fr,S.t]
theorem ij (cM cF:Addr) (L:T) (most:Int) (fr:List Ev) (dn:List T) (pl en:T):(ms cM cF L most fr dn pl en).t=mt cM cF L most fr dn pl en:=by
 unfold ms mt
 simp only [S.t,S.ts,NM,NN]
theorem yZ:∀ {ρ:En},(ρ.all fun e=>match e with | some (_,true)=>false | _=>true)=true→∀ e∈ρ,eX e:=fun {ρ} h e he=>by
 have:=Oi.mp h e he
 match e,this with
 | none,_=>trivial
 | some (t,false),_=>cases t <;> trivial
theorem kE {t:T} (h:bU t=true):wo (some (t,false))=some (t,false):=by
 show (if bU t=true then some (t,false) else none)=_
 rw [if_pos h]
theorem QF (b:Option T):eX (vwO b):=by
 cases b with
 | none=>trivial
 | some t=>cases t <;> trivial
theorem GA {M:Mz} {ρ:En} {s:S} (h:∀ e∈ρ,eX e):∀ e∈nk M ρ s,eX e:=fun e he=>by
 unfold nk at he
 rcases Og he with z | z
 · obtain ⟨e0,h0,rfl⟩:=vd.mp z
   have:=h e0 h0
   match e0,this with
   | none,_=>trivial
   | some (t,true),q=>exact q
   | some (t,false),_ =>
     show eX (if bU t=true then some (t,false) else none)
     by_cases hi:bU t=true
     · rw [if_pos hi]; cases t <;> trivial
     · rw [if_neg hi]; trivial
 · rw [z]; trivial
theorem V3 {ρ:En} {i:Nat} {t:T} (h:∀ e∈ρ,eX e):∀ e∈ρ.set i (some (t,false)),eX e:=fun e he=>by
 rcases Og he with z | z
 · exact h e z
 · rw [z]; cases t <;> trivial
theorem NO {d:NA} {M:Mz} {ρ:En} {s s':S} (e:s=s') (h:d.nx (nk M ρ s') s'):d.nx (nk M ρ s) s:=by rw [e]; exact h
theorem GB {d:NA} {M:Mz} {ρ ρ':En} {s s':S} (e:s=s') (hρ:nk M ρ s'=ρ') (h:d.nx ρ' s'):d.nx (nk M ρ s) s:=by rw [e,hρ]; exact h
theorem QG {d:NA} {M:Mz} {ρ:En} {s s':S} {j:Nat} {t:T} (e:s=s') (h:d.nx ((nk M ρ s').set j (some (t,false))) s'):d.nx ((nk M ρ s).set j (some (t,false))) s:=by rw [e]; exact h
section
variable {cM cF:Addr} {L:T} {most:Int} {fr:List Ev} {e:Ev} {dn:List T} {pl en:T}
theorem NP (C:Addr) (f:Str) (ns:List Str) (xs:List S):(S.ins C ns xs).Yi (.fld C f)=jP f ns:=by
 show (if C=C then jP f ns else none)=_
 rw [if_pos rfl]
theorem Ba {C:Addr} {f:Str} {ns:List Str} {xs:List S} {i:Nat} {x:S} {ps:List kr} (h1:jP f ns=some i) (h2:xs[i]?=some x):(S.ins C ns xs).get (.fld C f :: ps)=x.get ps:=by
 rw [S.get,NP,h1]
 show (match xs[i]? with | some x=>x.get ps | none=>none)=_
 rw [h2]
theorem Bb {C:Addr} {f:Str} {ns:List Str} {xs:List S} {i:Nat} {x y:S} {ps:List kr} (h1:jP f ns=some i) (h2:xs[i]?=some x):(S.ins C ns xs).put (.fld C f :: ps) y = .ins C ns (xs.set i (x.put ps y)):=by
 rw [S.put,NP,h1]
 show (match xs[i]? with | some x=>S.ins C ns (xs.set i (x.put ps y)) | none=>_)=_
 rw [h2]
theorem V4 {x:S} {ps:List kr}:(S.lst [x]).get (.last :: ps)=x.get ps:=by
 rw [S.get]
 rfl
theorem V5 {x y:S} {ps:List kr}:(S.lst [x]).put (.last :: ps) y = .lst [x.put ps y]:=by
 rw [S.put]
 rfl
theorem GC (s:S):s.get []=some s:=by cases s <;> rfl
theorem GD (s y:S):s.put [] y=y:=by cases s <;> rfl
theorem GF:(ms cM cF L most fr dn pl en).get [.fld cM "frames"]=some (.lst (fr.map (K4 cF))):=by
 unfold ms
 rw [Ba (i:=3) rfl rfl,GC]
theorem GG {fr':List Ev}:(ms cM cF L most fr dn pl en).put [.fld cM "frames"] (.lst (fr'.map (K4 cF)))=ms cM cF L most fr' dn pl en:=by
 unfold ms
 rw [Bb (i:=3) rfl rfl,GD]
 rfl
theorem ua:(ms cM cF L most fr dn pl en).get [.fld cM "doings"]=some (.lst (dn.map .lf)):=by
 unfold ms
 rw [Ba (i:=6) rfl rfl,GC]
theorem GH {t:T}:(ms cM cF L most fr dn pl en).put [.fld cM "doings"] (.lst (dn.map .lf ++ [.lf t]))=ms cM cF L most fr (dn ++ [t]) pl en:=by
 unfold ms
 rw [Bb (i:=6) rfl rfl,GD,Oq]
 rfl
theorem GJ:(ms cM cF L most [e] dn pl en).get [.fld cM "frames",.last,.fld cF "names"]=some (.dk e.ks e.ts):=by
 unfold ms
 rw [Ba (i:=3) rfl rfl]
 show S.get (.lst [K4 cF e]) _=_
 rw [V4]
 unfold K4
 rw [Ba (i:=1) rfl rfl,GC]
theorem QH {ks:List Key} {ts:List T}:(ms cM cF L most [e] dn pl en).put [.fld cM "frames",.last,.fld cF "names"] (.dk ks ts) = .ins cM mN [.lf L,.lf (.int most),.lf .aT,.lst [.ins cF ["call","names"] [.lf .aT,.dk ks ts]],.dk [] [],.dk [] [],.lst (dn.map .lf),.lf pl,.lf en]:=by
 unfold ms
 rw [Bb (i:=3) (x:=.lst [K4 cF e]) rfl rfl,V5]
 unfold K4
 rw [Bb (i:=1) rfl rfl,GD]
 rfl
theorem K6 {x:Str} {v:Int}:(ms cM cF L most [e] dn pl en).put [.fld cM "frames",.last,.fld cF "names"] (.dk (eE e.ks (.inr x)) (cc e.ks e.ts (.inr x) (.int v)))=ms cM cF L most [e.put x v] dn pl en:=by
 rw [QH,jR]; rfl
end
def bo (ps:List Str) (gs:List Int):Nat→Ev
 | 0=>ev0
 | k+1=>match ps[k]? with
   | some x=>(bo ps gs k).put x (gs.getD k 0)
   | none=>bo ps gs k
theorem o_ (ps:List Str) (gs:List Int):∀ k,(bo ps gs k).is.length≤k
 | 0=>dm _
 | k+1=>by
   have ih:=o_ ps gs k
   unfold bo
   split
   · have:=r_ (bo ps gs k).ks (bo ps gs k).is (.inr ‹Str›) (gs.getD k 0)
     exact k0 this (by omega)
   · omega
theorem ub (ps:List Str) (gs:List Int) (h:∀ g∈gs,RI g):∀ k,gd (bo ps gs k) k
 | 0=>⟨dm _,fun i hi=>nomatch hi⟩
 | k+1=>by
   have ih:=ub ps gs h k
   unfold bo
   split
   · refine ih.put _ ?_
     rw [List.getD]
     cases e:gs[k]? with
     | none=>exact RI0
     | some g=>exact h g (ik e)
   · exact ⟨Nat.le_succ_of_le ih.n,ih.ri⟩
end Run
namespace VT
open PySem PySem.Spec PyProof.Rows L2
theorem dX {α:Type} {f u:α→T} {h:FG} {fe:FE} {ρ:En}:∀ {xs:List α} {Q:List T→Prop},(∀ x∈xs,∀ r:T→Prop,r (u x)→h (f x) ρ fun ρ2=>fe ρ2 r)→Q (xs.map u)→cx h B5 fe ρ (xs.map f) Q
 | [],Q,_,hq=>hq
 | x :: xs,Q,step,hq=>by
   simp only [i5,cx]
   exact step x c6 (fun y=>cx h B5 fe ρ (xs.map f) fun us=>Q (y :: us)) (dX (Q:=fun us=>Q (u x :: us)) (fun y hy=>step y (eB _ hy)) hq)
theorem iG {lo:Int} {n:Nat} {u:Nat→T} {h:FG} {fe:FE} {ρ:En} {Q:List T→Prop} (step:∀ i < n,∀ r:T→Prop,r (u i)→h (.int (lo+(i:Int))) ρ fun ρ2=>fe ρ2 r) (hq:Q ((List.range n).map u)):cx h B5 fe ρ (rangeT lo n) Q :=
 dX (f:=fun i:Nat=>T.int (lo+(i:Int))) (u:=u) (fun i hi=>step i (IE.mp hi)) hq
theorem wK {h:FG} {fe:FE} {ρ:En} {Q:List T→Prop} {Pd:T→Prop}:∀ {ts:List T},(∀ t∈ts,∀ r:T→Prop,(∀ x,Pd x→r x)→h t ρ fun ρ2=>fe ρ2 r)→(∀ us:List T,us.length=ts.length→(∀ x∈us,Pd x)→Q us)→cx h B5 fe ρ ts Q
 | [],_,hq=>hq [] rfl (fun _ z=>nomatch z)
 | t :: ts,step,hq=>by
   simp only [cx]
   have:=step t c6 (fun u=>cx h B5 fe ρ ts fun us=>Q (u :: us)) fun x hx=>wK (fun t ht=>step t (eB _ ht)) fun us hl ha=>hq (x :: us) (by simp [hl]) fun y hy=>by
    rcases cY.mp hy with z | z
    · rw [z]; exact hx
    · exact ha y z
   exact this
end VT
namespace VT
open PySem PySem.Spec PyProof.Rows
def ddp {K:Type} [DecidableEq K] (l:List K) (v:K):List K:=if v∈l then l else l ++ [v]
def met {K:Type} [DecidableEq K] (val:Nat→K):Nat→List K
 | 0=>[]
 | i+1=>ddp (met val i) (val i)
section
variable {K:Type} [DecidableEq K]
end
section
variable {prog:Program} {w:World} {A:Around} {R:Result→Shared→Prop} {I:Addr} {fp wr:List Addr} {G:Array GenState→Array GenState→Prop} {n:Nat} {P:Nat→Value→Prop} {St:Nat→Shared→Prop}
variable {K:Type} [DecidableEq K] {knd:PySem.KeyKind prog w K}
end
section
variable {prog:Program} {w:World} {A:Around} {E:Value→Shared→Prop} {s:Shared} {K:Type} [DecidableEq K] {knd:PySem.KeyKind prog w K}
end
end VT
namespace VT
open PySem PySem.Spec PyProof.Rows L2
section
variable {X:Cx}
end
section
variable {X:Cx} {Z:Zc} {a:Expr} {fa:FE} {p1 p2 Kq Cm:Pos}
end
section
variable {X:Cx} {Z:Zc} {a b o e i:Expr} {fa fb fe fo fi:FE} {pos apos aW:Pos}
end
def andM (r:Rt) (A B:Prop):Prop:=match r with
 | .vw (.bl true)=>A
 | .vw (.bl false)=>B
 | _=>False
theorem Bc {c:Bool} {A B:Prop} (h1:c=true→A) (h2:c=false→B):andM (.vw (.bl c)) A B:=by
 cases c with
 | true=>exact h1 rfl
 | false=>exact h2 rfl
end VT
namespace Nm
open PySem L2 VT Gen AG
def top (i:Nat):Stmt:=PySem.Challenge.pw_slicewise_k12_straight_rows.main.body.getD i (.Pass ⟨0,0,0,0⟩)
abbrev jd:Stmt:=top 6
abbrev jS:Stmt:=top 7
structure Mg2 (mg:Str→Option Value):Prop where
 K7:∃ t,mg "LETTERS" = some (.str bP t)
 uc:∃ t,mg "LONGEST_NAME" = some (.int 8 t)
 isinstance:mg "isinstance" = none
 str:mg "str" = none
 len:mg "len" = none
 all:mg "all" = none
theorem cf {n:Nat} (h:n≤1000):n≤sizeLine:=small h
def K8:T→Bool
 | .lst _=>false
 | .dk _ _=>false
 | .dt _ _=>false
 | .df _ _ _=>false
 | .dz _ _ _=>false
 | .kt _=>false
 | .ins _ _ _=>false
 | .pin _ _=>false
 | .ob _=>false
 | .ty _=>false
 | _=>true
def Bd:T→Bool
 | .str x=>c_ x
 | _=>false
def jx (ts:List T) (q:Rt→Prop):Prop:=∃ t,ts=[t]∧K8 t=true∧(∀ x,t = .str x→x.length≤1000)∧q (.vw (.bl (Bd t)))
def QI (r:Rt) (A:Prop) (B:Prop):Prop:=match r with
 | .vw (.bl true)=>A
 | .vw (.bl false)=>B
 | _=>False
theorem GK {c:Bool} {A B:Prop} (h1:c=true→A) (h2:c=false→B):QI (.vw (.bl c)) A B:=by
 cases c with
 | true=>exact h1 rfl
 | false=>exact h2 rfl
def wL:T→Bool
 | .str x=>Po x
 | _=>false
def y0 (t:T):Prop:=(∃ x,t = .str x∧x.length≤100)∨∃ i,t = .int i
def Cp (ts:List T) (q:Rt→Prop):Prop:=∃ t,ts=[t]∧y0 t∧q (.vw (.bl (wL t)))
def andM (r:Rt) (A:Prop) (B:Prop):Prop:=match r with
 | .vw (.bl true)=>A
 | .vw (.bl false)=>B
 | _=>False
theorem Bc {c:Bool} {A B:Prop} (h1:c=true→A) (h2:c=false→B):andM (.vw (.bl c)) A B:=by
 cases c with
 | true=>exact h1 rfl
 | false=>exact h2 rfl
theorem Be:∀ l:List Nat,c0 (l.map ((fun t:T=>match t with | .str y=>.bl (EW y bP) | _=>.aT) ∘ fun c=>T.str ⟨#[c]⟩))=some (l.map B2)
 | []=>rfl
 | c :: l=>by
   rw [i5,i5]
   show (c0 _).map _=_
   rw [Be l]
   rfl
section
variable {P:Program} {w:World} {K:KFr} {mg:Str→Option Value} {base:Heap}
abbrev lU:List Str:=["thing"]
theorem pb:aC lU ["thing"] (ah jd):=L2.gj
theorem qH:(lU ++ (["sign"]:List Str)).Nodup:=by decide +kernel
theorem K9 {f:Addr} {fd:FuncData} (D:Df K mg "is_name" jd ["thing"] f fd) (M:Mg2 mg):cy P w K mg base "is_name" ["thing"] 1 (cT K 1 jx):=by
 refine D.gJ (kj D.F pb rfl fun bu A outer s H E Ox hr ts q hG=>?_)
 have nd:=pb.nd
 have np:∀ {i:Nat},br ⟨H,[],Ox⟩ i:=ki
 obtain ⟨tL,mL⟩:=M.K7
 obtain ⟨tN,mN⟩:=M.uc
 have pd:∀ {pos},VP (eG dI P w K mg base lU "is_name" (ah jd) f bu A outer s H E).nZ ⟨H,[],Ox⟩ (.Name "LONGEST_NAME" pos) (fC (.int 8)):=gP (by rfl) mN (v:=.int 8) ⟨tN,rfl⟩ fun _ _=>bb
 refine ⟨_,(aj (bE (VW.vc (jA (eD (dw (du oJ (by rfl) M.isinstance (by rfl) M.str E5 (aa 0)))) (lg (eD (EZ MT MT (VP.vr af) (VP.vr (bq bc bf (by rfl) M.len rh (aE (aa 0) aQ))) (VP.vr pd))))))
    (ar (aJ (VP.vx mG)))
    aO)
   (ar (aJ (VP.vx (bq (oq rfl) B9 (by rfl) M.all UW (aE (VP.vr (fO (ts:=["sign"]) rfl (by rfl) (eU (aq 0)) (fun _ _ _ _ _ _=>(bB (i:=1) qH rfl (Or.inl rfl) np)) (fun _ _ _ _ _ _=>eI) (fun _ _ _ _ _ _=>(VP.ve (UR (aa 1) (VP.vr (gP (by rfl) mL (v:=.str bP) ⟨tL,rfl⟩ fun _ _=>cP))))))) aQ)))))),fun _=>?_⟩
 obtain ⟨t,rfl,ht,hx,hq⟩:=hG
 cases t with
 | aT=>exact ⟨rfl,hq⟩
 | bl b=>exact ⟨rfl,hq⟩
 | int x=>exact ⟨rfl,hq⟩
 | tup l=>exact ⟨rfl,hq⟩
 | str x =>
   have hl:=hx x rfl
   have h7:q (.vw (.bl (decide (1≤(x.length:Int)) && (decide ((x.length:Int)≤8) && x.cps.toList.all B2)))):=hq
   refine ⟨rfl,cf hl,GK (c:=decide (1≤(x.length:Int))) (fun h1=>?_) (fun h1=>?_)⟩
   · rw [h1,Tj] at h7
     refine yy (fun h2=>?_) (fun h2=>?_)
     · have Kr:(!decide ((x.length:Int)≤8))=true:=h2
       have h3:decide ((x.length:Int)≤8)=false:=by simpa using Kr
       rw [h3,Bool.false_and] at h7
       exact h7
     · have Kr:¬ (!decide ((x.length:Int)≤8))=true:=h2
       have h3:decide ((x.length:Int)≤8)=true:=by simpa using Kr
       rw [h3,Tj] at h7
       refine ⟨rfl,by rw [cU,Sz]; exact cf hl,rK (fun _=>true) (fun t=>match t with | .str y=>.bl (EW y bP) | _=>.aT) (fun t ht k r h=>?_) ?_⟩
       · obtain ⟨c,_,rfl⟩:=vd.mp ht
         exact ⟨_,rfl,h⟩
       · rw [List.filter_eq_self.mpr (fun _ _=>rfl),Ap]
         refine ⟨x.cps.toList.map B2,Be x.cps.toList,?_⟩
         rw [List.all_map]
         exact h7
   · rw [h1,Bool.false_and] at h7
     exact h7
 | _=>cases ht
abbrev y6:List Str:=["thing"]
theorem mP:aC y6 ["thing"] (ah jS):=L2.gj
theorem wM {f:Addr} {fd:FuncData} (D:Df K mg "is_field" jS ["thing"] f fd) (M:Mg2 mg) (lV:cy P w K mg base "is_name" ["thing"] 1 (cT K 1 jx)):cy P w K mg base "is_field" ["thing"] 2 (cT K 1 Cp):=by
 obtain ⟨CJ,y7,lW,lY,lZ,l0⟩:=lV
 refine D.gJ (kj D.F mP rfl fun bu A outer s H E Ox hr ts q hG=>?_)
 have nd:=mP.nd
 refine ⟨_,(ar (aJ (VP.vx (yC (du oJ (by rfl) M.isinstance (by rfl) M.str E5 (aa 0)) (yC (Cr (aa 0) (VP.vr aM)) (EH (aV l0 (hr.mono (by decide)) (by rfl) lW lY lZ (ae (VP.ve (eS (aa 0) (fK (VP.vr af)) i9)) ak)))))))),fun _=>?_⟩
 obtain ⟨t,rfl,ht,hq⟩:=hG
 rcases ht with ⟨x,rfl,hx⟩ | ⟨i,rfl⟩
 · refine ⟨rfl,?_⟩
   have h7:q (.vw (.bl (Txt.startswith x "." && c_ (Txt.slice x (some 1) none)))):=hq
   refine Bc (c:=Txt.startswith x ".") (fun h=>?_) (fun h=>?_)
   · rw [h,Tj] at h7
     refine ⟨cf (by omega),rfl,_,rfl,rfl,fun y e=>?_,h7⟩
     cases e
     exact k0 (Txt.slice_le x _ _) (by omega)
   · rw [h,Bool.false_and] at h7
     exact h7
 · exact ⟨rfl,hq⟩
end
end Nm
namespace PySem
open Sem (wp)
namespace F
end F
section
variable {prog:Program} {w:World} {A:Around} {E:Value→Shared→Prop} {s:Shared} {K:Type} [DecidableEq K] {knd:KeyKind prog w K}
end
end PySem
namespace VT
open PySem PySem.Spec PyProof.Rows L2
section
variable {prog:Program} {w:World} {A:Around} {E:Value→Shared→Prop} {s:Shared}
end
end VT
namespace SY
open PySem L2 VT Gen AG Nm
def ud:Rw→List T
 | .give a=>[eM a]
 | .Qy a=>[eM a]
 | .Qz a=>[eM a]
 | .put _ a=>[eM a]
 | .kz _ a _ b=>[eM a,eM b]
 | .get _ r k=>[.str r,IQ k]
 | .set r k a=>[.str r,IQ k,eM a]
 | .call _ _ as=>as.map eM
 | _=>[]
abbrev jT:Stmt:=top 9
def V6:List (Str×T):=[("give",.tup [.int 1]),("put",.tup [.int 2]),("do",.tup [.int 2,.int 4]),("get",.tup [.int 2,.int 3]),("set",.tup [.int 1,.int 2,.int 3]),("if",.tup [.int 1]),("while",.tup [.int 1])]
structure MgU (w:World) (K:KFr) (mg:Str→Option Value):Prop where
 list:mg "list" = none
 US:∃ a,mg "USED_PLACES" = some (.ref a)∧oU w K a V6
def GN:Rw→List T
 | .call _ _ as=>as.map eM
 | r=>(ud r).filter fun t=>!wL t
def Bf (ts:List T) (q:Rt→Prop):Prop:=∃ r:Rw,ts=[a8 r]∧(∀ t∈ud r,y0 t)∧q (.fr (.lst (GN r)))
section
variable {P:Program} {w:World} {K:KFr} {mg:Str→Option Value} {base:Heap}
abbrev jU:List Str:=["row","parts"]
theorem mQ:aC jU ["row"] (ah jT):=L2.gj
theorem pe:(jU ++ (["place"]:List Str)).Nodup:=by decide +kernel
theorem pf:(jU ++ (["part"]:List Str)).Nodup:=by decide +kernel
theorem wN {f:Addr} {fd:FuncData} (D:Df K mg "operands" jT ["row"] f fd) (M:MgU w K mg) (y8:cy P w K mg base "is_field" ["thing"] 2 (cT K 1 Cp)):cy P w K mg base "operands" ["row"] 3 (cT K 1 Bf):=by
 obtain ⟨QJ,NQ,y9,y_,za,zb⟩:=y8
 refine D.gJ (kj D.F mQ rfl fun bu A outer s H E Ox hr ts q hG=>?_)
 have nd:=mQ.nd
 have hu:=bz.gx hr
 have np:∀ {i:Nat},br ⟨H,[],Ox⟩ i:=ki
 obtain ⟨aU,qI,ph⟩:=M.US
 refine ⟨_,(aj (bE (cp hu (VP.vr (aH (aa 0) (VP.vr af))) (VP.vr aM))
    (ar (aJ (VP.vx (cK dB eT (by rfl) M.list lC (aE (VP.vr (aH (aa 0) (VP.vr af))) aQ)))))
    aO)
   (aj (AO (i:=1) (ts:=["place"]) nd rfl (Or.inl rfl) rfl (by rfl) (eU (VP.ve (Fz (by rfl) qI ph (VP.vr (aH (aa 0) (VP.vr af))) (VP.ve (bp ak)) ⟨rfl,rfl,rfl,rfl⟩))) (fun _ _ _ _ _ _=>(bB (i:=2) pe rfl (Or.inl rfl) np)) (fun _ _ _ _ _ _=>eI) (fun _ _ _ _ _ _=>(VP.ve (aH (aa 0) (aa 2)))) np)
   (ar (aJ (VP.vx (fO (ts:=["part"]) rfl (by rfl) (eU (aq 1)) (fun _ _ _ _ _ _=>(bB (i:=2) pf rfl (Or.inl rfl) np)) (fun _ _ _ _ _ _=>(JW (eD (dw (aV zb (hr.mono (by decide)) (by rfl) y9 y_ za (ae (aq 2) ak)))))) (fun _ _ _ _ _ _=>(aq 2)))))))),fun _=>?_⟩
 obtain ⟨r,rfl,hl,hq⟩:=hG
 have fin:∀ (ps:List T),(∀ t∈ps,y0 t)→q (.fr (.lst (ps.filter fun t=>!wL t)))→cx (hName 2) (Uy (m7 (ET 1 (jB (vH 2) yD) Cp))) (vH 2) [some (a8 r,false),some (.lst ps,false),none] ps fun us=>q (.fr (.lst us)):=fun ps hps hq=>by
  refine rK (fun t=>!wL t) (fun t=>t) (fun t ht k r h=>?_) (by rw [List.map_id']; exact hq)
  refine ⟨rfl,t,rfl,hps t ht,?_⟩
  exact h
 cases r with
 | call x f as=>exact ⟨_,ai (j:=0) rfl,_,ai (j:=3) rfl,hq⟩
 | give a =>
   refine ⟨_,ai (j:=0) rfl,rfl,_,ai (j:=0) rfl,jw _,?_⟩
   show ([T.int 1]:List T).length≤sizeLine∧cx _ _ _ _ [T.int 1] _
   exact ⟨cf (by simp),_,ai (j:=1) rfl,rfl,cf (by simp),fin _ hl hq⟩
 | Qy a =>
   refine ⟨_,ai (j:=0) rfl,rfl,_,ai (j:=0) rfl,jw _,?_⟩
   show ([T.int 1]:List T).length≤sizeLine∧cx _ _ _ _ [T.int 1] _
   exact ⟨cf (by simp),_,ai (j:=1) rfl,rfl,cf (by simp),fin _ hl hq⟩
 | Qz a =>
   refine ⟨_,ai (j:=0) rfl,rfl,_,ai (j:=0) rfl,jw _,?_⟩
   show ([T.int 1]:List T).length≤sizeLine∧cx _ _ _ _ [T.int 1] _
   exact ⟨cf (by simp),_,ai (j:=1) rfl,rfl,cf (by simp),fin _ hl hq⟩
 | put x a =>
   refine ⟨_,ai (j:=0) rfl,rfl,_,ai (j:=0) rfl,jw _,?_⟩
   show ([T.int 2]:List T).length≤sizeLine∧cx _ _ _ _ [T.int 2] _
   exact ⟨cf (by simp),_,ai (j:=2) rfl,rfl,cf (by simp),fin _ hl hq⟩
 | kz x a op b =>
   refine ⟨_,ai (j:=0) rfl,rfl,_,ai (j:=0) rfl,jw _,?_⟩
   show ([T.int 2,T.int 4]:List T).length≤sizeLine∧cx _ _ _ _ [T.int 2,T.int 4] _
   exact ⟨cf (by simp),_,ai (j:=2) rfl,_,ai (j:=4) rfl,rfl,cf (by simp),fin _ hl hq⟩
 | get x y k =>
   refine ⟨_,ai (j:=0) rfl,rfl,_,ai (j:=0) rfl,jw _,?_⟩
   show ([T.int 2,T.int 3]:List T).length≤sizeLine∧cx _ _ _ _ [T.int 2,T.int 3] _
   exact ⟨cf (by simp),_,ai (j:=2) rfl,_,ai (j:=3) rfl,rfl,cf (by simp),fin _ hl hq⟩
 | set y k a =>
   refine ⟨_,ai (j:=0) rfl,rfl,_,ai (j:=0) rfl,jw _,?_⟩
   show ([T.int 1,T.int 2,T.int 3]:List T).length≤sizeLine∧cx _ _ _ _ [T.int 1,T.int 2,T.int 3] _
   exact ⟨cf (by simp),_,ai (j:=1) rfl,_,ai (j:=2) rfl,_,ai (j:=3) rfl,rfl,cf (by simp),fin _ hl hq⟩
 | _ =>
   refine ⟨_,ai (j:=0) rfl,rfl,_,ai (j:=0) rfl,jw _,?_⟩
   show ([]:List T).length≤sizeLine∧cx _ _ _ _ [] _
   exact ⟨jw _,rfl,jw _,fin _ hl hq⟩
end
end SY
namespace Lay
open PySem L2 VT Gen K5
def top (i:Nat):Stmt:=PySem.Challenge.pw_slicewise_k12_straight_rows.main.body.getD i (.Pass ⟨0,0,0,0⟩)
abbrev gX:Stmt:=top 13
structure MgF (mg:Str→Option Value):Prop where
 enumerate:mg "enumerate" = none
def GO (ts:List T) (q:Rt→Prop):Prop:=∃ rs:List Rw,ts=[.lst (rs.map a8)]∧rs.length≤100∧q (.fr (SX (bj rs rs.length)))
section
variable {P:Program} {w:World} {K:KFr} {mg:Str→Option Value} {base:Heap}
abbrev ue:List Str:=["program","firsts","place","row"]
theorem jG:aC ue ["program"] (ah gX):=L2.gj
theorem qJ {f:Addr} {fd:FuncData} (D:Df K mg "first_defs" gX ["program"] f fd) (M:MgF mg):cy P w K mg base "first_defs" ["program"] 1 (cT K 1 GO):=by
 refine D.gJ (kj D.F jG rfl fun bu A outer s H E Ox hr ts q hG=>?_)
 have nd:=jG.nd
 have hu:=bz.gx hr
 have np:∀ {i:Nat},br ⟨H,[],Ox⟩ i:=ki
 refine ⟨_,(aj (dR (i:=1) nd rfl (Or.inl rfl) (VP.vx tS) np)
   (aj (gb DX rfl (AS (by rfl) M.enumerate (aq 0)) (sV (n:=2) rfl (d9 (bB (i:=2) nd rfl (Or.inl rfl) np) (d9 (bB (i:=3) nd rfl (Or.inl rfl) np) nI)))
     (ar (bE (cp hu (VP.vr (aH (aa 3) (VP.vr af))) (VP.vr aM))
       (ar (fM (Kt 1 (VP.ve (aH (aa 3) (VP.vr af))) (aq 2))))
       aO)))
   (ar (aJ (AK 1 np))))),fun _=>?_⟩
 obtain ⟨rs,rfl,hn,hq⟩:=hG
 refine rW (fun i ρ=>∃ b2 b3,ρ=[some (.lst (rs.map a8),false),some (SX (bj rs i),true),b2,b3]) ⟨_,_,rfl⟩ ?_ ?_
 · rintro i r ρ hr ⟨b2,b3,rfl⟩
   have hi:=(fG.mp hr).1
   have hlen:((bj rs i).map fun p=>T.int (p.2:Int)).length < 16777216:=by
    rw [cU]; have:=o7 rs i; omega
   have es:bj rs (i+1)=KW (bj rs i) i r:=by simp only [bj,hr]
   cases r with
   | df g ps =>
     refine ⟨rfl,rfl,_,ai (j:=0) rfl,?_⟩
     refine ⟨_,ai (j:=1) rfl,hlen,?_⟩
     rw [es]
     simp only [KW]
     rw [QC]
     cases ha:DR (bj rs i) g with
     | some j=>exact ⟨_,_,rfl⟩
     | none =>
       show ∃ b2 b3,_=[_,some (SX (bj rs i ++ [(g,i)]),true),b2,b3]
       have ef:SX (bj rs i ++ [(g,i)]) = .dk (((bj rs i).map fun p=>(Sum.inr p.1:Key)) ++ [Sum.inr g]) (((bj rs i).map fun p=>T.int (p.2:Int)) ++ [T.int (i:Int)]):=by
        simp only [SX,Oq,i5,ME]
       rw [ef]
       exact ⟨_,_,rfl⟩
   | _ =>
     refine ⟨rfl,rfl,_,ai (j:=0) rfl,?_⟩
     rw [es]
     exact ⟨_,_,rfl⟩
 · rintro ρ ⟨b2,b3,rfl⟩
   exact hq
end
end Lay
namespace V7
open PySem L2 VT Gen K5
def top (i:Nat):Stmt:=PySem.Challenge.pw_slicewise_k12_straight_rows.main.body.getD i (.Pass ⟨0,0,0,0⟩)
abbrev kF:Stmt:=top 14
structure Mg5 (K:KFr) (mg:Str→Option Value):Prop where
 len:mg "len" = none
 range:mg "range" = none
 enumerate:mg "enumerate" = none
 isinstance:mg "isinstance" = none
 int:mg "int" = none
 bool:mg "bool" = none
 tuple:mg "tuple" = none
 list:mg "list" = none
 zip:mg "zip" = none
 CL:∃ a,mg "CLOSERS" = some (.ref a)∧∀ H,dG K H a [.str "give",.str "end"]
 OP:∃ a,mg "OPENERS" = some (.ref a)∧∀ H,dG K H a [.str "def",.str "if",.str "while"]
def GP (ts:List T) (q:List T→Prop):Prop:=∃ rs:List Rw,ts=[.lst (rs.map a8)]∧K0 rs∧rs.length≤100∧q (Gr rs)
theorem vA {l:List T} {t:T} (h:l.getLast?=some t):kY l (-1)=some t:=by
 have hl:0 < l.length:=by cases l <;> simp_all
 rw [Sx] at h
 unfold kY uZ
 rw [if_neg (by decide),if_pos (by omega)]
 have e:(-1+(l.length:Int)).toNat=l.length - 1:=by omega
 rw [e]
 exact h
theorem GQ (kd:Nat→Kd):∀ k,(st kd k).length≤k
 | 0=>dm _
 | k+1=>by
   have:=GQ kd k
   simp only [st]
   split <;> split <;> simp <;> omega
theorem cf {n:Nat} (h:n≤1000):n≤sizeLine:=small h
theorem K_ (n:Nat) (t:T):(List.replicate n [t]).flatten=List.replicate n t:=by
 induction n with
 | zero=>rfl
 | succ n ih=>rw [Ao,My,ih]; rfl
def GR (rs:List Rw) (h e l o s:List T) (k:Nat) (r:Rw):En:=[some (.lst (rs.map a8),false),some (.lst h,true),some (.lst e,true),some (.lst l,true),some (.lst o,true),some (.lst s,true),some (.int (k:Int),false),some (a8 r,false)]
def uf (rs:List Rw) (k:Nat):List T:=(st (dD rs) k).map fun (j:Nat)=>T.int (j:Int)
def V8 (rs:List Rw) (k:Nat) (ρ:En):Prop:=∃ b6 b7 h e l o s,ρ=[some (.lst (rs.map a8),false),some (.lst h,true),some (.lst e,true),some (.lst l,true),some (.lst o,true),some (.lst s,true),b6,b7]∧h=tab (Gq (dD rs)) rs.length k∧e=ie (endsAt (dD rs) rs.length) rs.length k∧l=yW (dD rs) rs.length k∧o=tab (x5 (dD rs)) rs.length k∧s=uf rs k
def K' (rs:List Rw) (M:Nat→Rw→List T→List T→List T→List T→List T→Prop):FS:=fun d ρ=>∃ k r h e l o s,rs[k]?=some r∧ρ=GR rs h e l o s k r∧h=tab (Gq (dD rs)) rs.length (k+1)∧M k r h e l o s∧∀ ρ',V8 rs (k+1) ρ'→d.nx ρ'
def M1 (rs:List Rw) (k:Nat) (r:Rw) (h e l o s:List T):Prop:=e=ie (endsAt (dD rs) rs.length) rs.length k∧l=yW (dD rs) rs.length k∧s=uf rs k∧o.length=rs.length∧((bt r).df=true→o.set k (.int (k:Int))=tab (x5 (dD rs)) rs.length (k+1))∧((bt r).df=false→o=tab (x5 (dD rs)) rs.length (k+1))
def M2 (rs:List Rw) (k:Nat) (r:Rw) (h e l o s:List T):Prop:=e=ie (endsAt (dD rs) rs.length) rs.length k∧l=yW (dD rs) rs.length k∧s=uf rs k∧o=tab (x5 (dD rs)) rs.length (k+1)
def M3 (rs:List Rw) (k:Nat) (r:Rw) (h e l o s:List T):Prop:=e=ie (endsAt (dD rs) rs.length) rs.length k∧l=yW (dD rs) rs.length (k+1)∧s=uf rs k∧o=tab (x5 (dD rs)) rs.length (k+1)
def M4 (rs:List Rw) (k:Nat) (r:Rw) (h e l o s:List T):Prop:=e=ie (endsAt (dD rs) rs.length) rs.length (k+1)∧l=yW (dD rs) rs.length (k+1)∧o=tab (x5 (dD rs)) rs.length (k+1)∧s=(if (bt r).cl=true then (uf rs k).dropLast else uf rs k)
theorem pj {n k:Nat} (h:k < n):uZ n (k:Int)=some k:=by
 unfold uZ
 rw [if_pos (by omega),if_pos (by omega),xY]
theorem ug {rs:List Rw} {k:Nat} (h:st (dD rs) k≠[]):∃ j,(st (dD rs) k).getLast?=some j∧kY (uf rs k) (-1)=some (.int (j:Int)):=by
 obtain ⟨j,hj⟩:∃ j,(st (dD rs) k).getLast?=some j:=⟨_,List.getLast?_eq_some_getLast h⟩
 exact ⟨j,hj,vA (by unfold uf; rw [List.getLast?_map,hj]; rfl)⟩
section
variable {P:Program} {w:World} {K:KFr} {mg:Str→Option Value} {base:Heap}
abbrev uh:List Str:=["program","heads","ends","elses","homes","opened","place","row"]
theorem wO:aC uh ["program"] (ah kF):=L2.gj
theorem GS {f:Addr} {fd:FuncData} (D:Df K mg "shape" kF ["program"] f fd) (M:Mg5 K mg):cy P w K mg base "shape" ["program"] 1 (Vb K 1 GP):=by
 refine D.gJ (fnD D.F wO rfl (by decide) fun bu A outer s H E Ox hr ts q hG=>?_)
 have nd:=wO.nd
 have hu:=bz.gx hr
 have np:∀ {i:Nat},br ⟨H,[],Ox⟩ i:=ki
 obtain ⟨ac,mc,hac⟩:=M.CL
 obtain ⟨ao,mo,hao⟩:=M.OP
 have CK:∀ {pos},VP (eG dI P w K mg base uh "shape" (ah kF) f bu A outer s H E).nZ ⟨H,[],Ox⟩ (.Name "CLOSERS" pos) (fC (.tup [.str "give",.str "end"])):=gP (by rfl) mc (v:=.ref ac) rfl fun H A=>bX (hac H) (az.cons cP (az.cons cP az.nil))
 have CM:∀ {pos},VP (eG dI P w K mg base uh "shape" (ah kF) f bu A outer s H E).nZ ⟨H,[],Ox⟩ (.Name "OPENERS" pos) (fC (.tup [.str "def",.str "if",.str "while"])):=gP (by rfl) mo (v:=.ref ao) rfl fun H A=>bX (hao H) (az.cons cP (az.cons cP (az.cons cP az.nil)))
 obtain ⟨rs,rfl,W,hn,hq⟩:=hG
 refine ⟨_,(gy (dR (i:=1) nd rfl (Or.inl rfl) (VP.vx (jO (cz (ae (VP.ve cQ) ak)) (VP.vr (bq bc bf (by rfl) M.len rh (aE (aa 0) aQ))))) np)
   (gy (dR (i:=2) nd rfl (Or.inl rfl) (VP.vx (jO (cz (ae (VP.ve cQ) ak)) (VP.vr (bq bc bf (by rfl) M.len rh (aE (aa 0) aQ))))) np)
   (gy (dR (i:=3) nd rfl (Or.inl rfl) (VP.vx (jO (cz (ae (VP.ve cQ) ak)) (VP.vr (bq bc bf (by rfl) M.len rh (aE (aa 0) aQ))))) np)
   (gy (dR (i:=4) nd rfl (Or.inl rfl) (VP.vx (jO (cz (ae (VP.ve cQ) ak)) (VP.vr (bq bc bf (by rfl) M.len rh (aE (aa 0) aQ))))) np)
   (gy (dR (i:=5) nd rfl (Or.inl rfl) (VP.vx (cz ak)) np)
   (gy (gb DX rfl (AS (by rfl) M.enumerate (aq 0)) (sV (n:=2) rfl (d9 (bB (i:=6) nd rfl (Or.inl rfl) np) (d9 (bB (i:=7) nd rfl (Or.inl rfl) np) nI)))
     (aj (bE (M_ (VP.vr (bq bc bf (by rfl) M.len rh (aE (aa 5) aQ))) (VP.vr af))
       (aj (lq 1 (VP.ve (aH (aa 5) (VP.vr (ll (VP.vr af))))) (aa 6))
       (ar (lq 4 (VP.ve (aH (aa 5) (VP.vr af))) (aa 6))))
       aO)
     (m8.weak (u:=(K' rs (M1 rs))) (aj (bE (cp hu (VP.vr (aH (aa 7) (VP.vr af))) (VP.vr aM))
       (ar (lq 4 (aq 6) (aa 6)))
       aO)
     (m8.weak (u:=(K' rs (M2 rs))) (aj (bE (cp hu (VP.vr (aH (aa 7) (VP.vr af))) (VP.vr aM))
       (ar (lq 3 (aq 6) (VP.vr (aH (aa 5) (VP.vr (ll (VP.vr af)))))))
       aO)
     (m8.weak (u:=(K' rs (M3 rs))) (aj (bE (rN (VP.vr (aH (aa 7) (VP.vr af))) (VP.vr CK))
       (aj (lq 2 (aq 6) (VP.vr (aH (aa 5) (VP.vr (ll (VP.vr af))))))
       (ar (fM (PJ 5 PySem.F.slot_list_pop PySem.F.type_list_pop Ex JT))))
       aO)
     (m8.weak (u:=(K' rs (M4 rs))) (ar (bE (rN (VP.vr (aH (aa 7) (VP.vr af))) (VP.vr CM))
       (ar (fM (rJ 5 Mt Mu cZ dS (ae (aq 6) ak))))
       aO)) ?w4)) ?w3)) ?w2)) ?w1)))
   (Kv (is:=[1,2,3,4]) rfl ⟨_,_,1,_,rfl,rfl,rfl,Or.inl rfl,by decide,by decide,rfl,⟨_,_,2,_,rfl,rfl,rfl,Or.inl rfl,by decide,by decide,rfl,⟨_,_,3,_,rfl,rfl,rfl,Or.inl rfl,by decide,by decide,rfl,⟨_,_,4,_,rfl,rfl,rfl,Or.inl rfl,by decide,by decide,rfl,rfl⟩⟩⟩⟩ (by decide) (by decide)))))))),fun _=>?main⟩
 case w4 =>
  rintro d ρ ⟨k,r,h,e,l,o,s,dY,rfl,rfl,⟨rfl,rfl,rfl,rfl⟩,fin⟩
  have yQ:k < rs.length:=(fG.mp dY).1
  have mO:=lT dY
  obtain ⟨rl,er⟩:=gB r
  unfold GR
  rw [er]
  refine ⟨_,ai (j:=0) rfl,rfl,rfl,?_⟩
  refine yy (fun h1=>?_) (fun h1=>?_)
  · have ho:(bt r).op=true:=by rw [← VZ]; exact h1
    have hc:(bt r).cl=false:=by have:=W.ex k yQ (by rw [mO]; exact ho); rw [mO] at this; exact this
    rw [hc,if_neg eC]
    refine ⟨?_,fin _ ⟨_,_,_,_,_,_,_,rfl,rfl,rfl,rfl,rfl,?_⟩⟩
    · have:=GQ (dD rs) k
      unfold uf
      rw [cU,sizeLine_eq]
      omega
    · unfold uf
      rw [rX (by rw [mO]; exact ho) (by rw [mO]; exact hc),Oq]
      rfl
  · have ho:(bt r).op=false:=by
     cases q:(bt r).op with
     | false=>rfl
     | true=>exact (h1 ((VZ r).trans q)).elim
    refine fin _ ⟨_,_,_,_,_,_,_,rfl,rfl,rfl,rfl,rfl,?_⟩
    unfold uf
    by_cases hc:(bt r).cl=true
    · rw [if_pos hc,o6 (by rw [mO]; exact hc) (by rw [mO]; exact ho),List.map_dropLast]
    · rw [if_neg hc,wC (by rw [mO]; cases q:(bt r).cl <;> simp_all) (by rw [mO]; exact ho)]
 case w3 =>
  rintro d ρ ⟨k,r,h,e,l,o,s,dY,rfl,rfl,⟨rfl,rfl,rfl,rfl⟩,fin⟩
  have yQ:k < rs.length:=(fG.mp dY).1
  have mO:=lT dY
  obtain ⟨rl,er⟩:=gB r
  unfold GR
  rw [er]
  refine ⟨_,ai (j:=0) rfl,rfl,rfl,?_⟩
  refine yy (fun h1=>?_) (fun h1=>?_)
  · have hc:(bt r).cl=true:=by rw [← VY]; exact h1
    have nY:(dD rs k).cl=true:=by rw [mO]; exact hc
    obtain ⟨j,hj,ej⟩:=ug (W.cl k yQ nY)
    obtain ⟨te,hjk⟩:=KZ W yQ nY hj
    refine ⟨_,ej,j,by rw [wD]; exact pj (by omega),rfl,.int (j:Int),?_,k,r,_,_,_,_,_,dY,by rw [← er]; rfl,rfl,⟨?_,rfl,rfl,by rw [if_pos hc]⟩,fin⟩
    · unfold uf
      rw [cU,i4,← Sx,hj]
      rfl
    · refine Gp te fun i hi he=>?_
      have:=(A9 W yQ he hi).2
      rw [hj] at this
      exact (Option.some.inj this).symm
  · have hc:(bt r).cl=false:=by
     cases q:(bt r).cl with
     | false=>rfl
     | true=>exact (h1 ((VY r).trans q)).elim
    refine ⟨k,r,_,_,_,_,_,dY,by rw [← er]; rfl,rfl,⟨CB fun i hi he=>?_,rfl,rfl,by rw [hc,if_neg eC]⟩,fin⟩
    have:=(A9 W yQ he hi).1
    rw [mO,hc] at this
    cases this
 case w2 =>
  rintro d ρ ⟨k,r,h,e,l,o,s,dY,rfl,rfl,⟨rfl,rfl,rfl,rfl⟩,fin⟩
  have yQ:k < rs.length:=(fG.mp dY).1
  have mO:=lT dY
  obtain ⟨rl,er⟩:=gB r
  unfold GR
  rw [er]
  refine ⟨_,ai (j:=0) rfl,?_⟩
  refine yy (fun h1=>?_) (fun h1=>?_)
  · have hc:(bt r).el=true:=by rw [← VU]; exact h1
    have nY:(dD rs k).el=true:=by rw [mO]; exact hc
    obtain ⟨j,hj,ej⟩:=ug (W.el k yQ nY)
    have Yg:j < k:=(rY k).2 j (List.mem_of_getLast? hj)
    refine ⟨_,ej,j,by rw [t4]; exact pj (by omega),k,r,_,_,_,_,_,dY,by rw [← er]; rfl,rfl,⟨rfl,?_,rfl,rfl⟩,fin⟩
    simp only [yW,Gq,nY,hj]
  · have hc:(bt r).el=false:=by
     cases q:(bt r).el with
     | false=>rfl
     | true=>exact (h1 ((VU r).trans q)).elim
    refine ⟨k,r,_,_,_,_,_,dY,by rw [← er]; rfl,rfl,⟨rfl,?_,rfl,rfl⟩,fin⟩
    simp only [yW,mO,hc]
 case w1 =>
  rintro d ρ ⟨k,r,h,e,l,o,s,dY,rfl,rfl,⟨rfl,rfl,rfl,ol,o1,o2⟩,fin⟩
  have yQ:k < rs.length:=(fG.mp dY).1
  obtain ⟨rl,er⟩:=gB r
  unfold GR
  rw [er]
  refine ⟨_,ai (j:=0) rfl,?_⟩
  refine yy (fun h1=>?_) (fun h1=>?_)
  · exact ⟨k,by rw [ol]; exact pj yQ,k,r,_,_,_,_,_,dY,by rw [← er]; rfl,rfl,⟨rfl,rfl,rfl,o1 (by rw [← VQ]; exact h1)⟩,fin⟩
  · have hc:(bt r).df=false:=by
     cases q:(bt r).df with
     | false=>rfl
     | true=>exact (h1 ((VQ r).trans q)).elim
    exact ⟨k,r,_,_,_,_,_,dY,by rw [← er]; rfl,rfl,⟨rfl,rfl,rfl,o2 hc⟩,fin⟩
 case main =>
  have hlen:((rs.map a8).length:Int)=(rs.length:Int):=by rw [cU]
  have acD:(List.replicate ((rs.map a8).length:Int).toNat [T.aT]).flatten=List.replicate rs.length T.aT:=by
   rw [hlen,xY]
   exact K_ _ _
  have SQ : -(2 ^ 63)≤((rs.map a8).length:Int):=by omega
  have Cb:((rs.map a8).length:Int) < 2 ^ 63:=by omega
  have Ym:[T.aT].length * ((rs.map a8).length:Int).toNat≤sizeLine:=by rw [hlen,xY,sizeLine_eq]; simp; omega
  refine ⟨cf (by simp),SQ,Cb,Ym,cf (by simp),SQ,Cb,Ym,cf (by simp),SQ,Cb,Ym,cf (by simp),SQ,Cb,Ym,cf (by simp),?_⟩
  show mK (d_ (rs.map a8)) _ _ _ [some (.lst (rs.map a8),false),some (.lst (List.replicate ((rs.map a8).length:Int).toNat [T.aT]).flatten,true),some (.lst (List.replicate ((rs.map a8).length:Int).toNat [T.aT]).flatten,true),some (.lst (List.replicate ((rs.map a8).length:Int).toNat [T.aT]).flatten,true),some (.lst (List.replicate ((rs.map a8).length:Int).toNat [T.aT]).flatten,true),some (.lst [],true),none,none]
  rw [Gs,acD]
  refine E6 (V8 rs)
   ⟨_,_,_,_,_,_,_,rfl,(wF _ _).symm,(CA _ _).symm,rfl,(wF _ _).symm,rfl⟩ ?_ ?_
  · rintro k ⟨r,k'⟩ ρ hk ⟨b6,b7,_,_,_,_,_,rfl,rfl,rfl,rfl,rfl,rfl⟩
    rw [List.getElem?_zipIdx] at hk
    cases dY:rs[k]? with
    | none=>rw [dY] at hk; cases hk
    | some r' =>
    rw [dY] at hk
    simp at hk
    obtain ⟨rfl,rfl⟩:=hk
    have yQ:k < rs.length:=(fG.mp dY).1
    obtain ⟨rl,er⟩:=gB r'
    refine ⟨rfl,rfl,?_⟩
    show UH _ _ _ [some (.lst (rs.map a8),false),some (.lst (tab (Gq (dD rs)) rs.length k),true),some (.lst (ie (endsAt (dD rs) rs.length) rs.length k),true),some (.lst (yW (dD rs) rs.length k),true),some (.lst (tab (x5 (dD rs)) rs.length k),true),some (.lst (uf rs k),true),some (.int (k:Int),false),some (a8 r',false)]
    rw [er]
    have mO:=lT dY
    refine jt (fun h1=>?_) (fun h1=>?_)
    · have eK:st (dD rs) k≠[]:=fun z=>by
       have IP:((uf rs k).length:Int) > 0:=h1
       unfold uf at IP
       rw [z] at IP
       simp at IP
      obtain ⟨j,hj,ej⟩:=ug eK
      obtain ⟨j0,hj0⟩:∃ j0,(st (dD rs) k).head?=some j0:=⟨_,List.head?_eq_some_head eK⟩
      have ej0:kY (uf rs k) 0=some (.int (j0:Int)):=ai (j:=0) (by unfold uf; rw [i4,← List.head?_eq_getElem?,hj0]; rfl)
      refine ⟨_,ej,k,by rw [kD]; exact pj yQ,_,ej0,k,by rw [kD]; exact pj yQ,k,r',_,_,_,_,_,dY,by rw [← er]; rfl,?_,⟨rfl,rfl,rfl,by rw [ID,kD],fun hd=>?_,fun hd=>?_⟩,fun ρ' h=>h⟩
      · have e1:T.int (j:Int)=oT (Gq (dD rs) k):=by unfold Gq; rw [hj]; rfl
        rw [e1]; exact nQ
      · rw [List.set_set]
        have e1:T.int (k:Int)=oT (x5 (dD rs) k):=by unfold x5; rw [mO,if_pos hd]; rfl
        rw [e1]; exact nQ
      · have e1:T.int (j0:Int)=oT (x5 (dD rs) k):=by unfold x5; rw [mO,hd,if_neg eC,hj0]; rfl
        rw [e1]; exact nQ
    · have eK:st (dD rs) k=[]:=by
       cases q:st (dD rs) k with
       | nil=>rfl
       | cons a b =>
         exfalso
         refine h1 ?_
         show ((uf rs k).length:Int) > 0
         unfold uf
         rw [q]
         simp
      refine ⟨k,r',_,_,_,_,_,dY,by rw [← er]; rfl,wG (by unfold Gq; rw [eK]; rfl),⟨rfl,rfl,rfl,by rw [kD],fun hd=>?_,fun hd=>?_⟩,fun ρ' h=>h⟩
      · have e1:T.int (k:Int)=oT (x5 (dD rs) k):=by unfold x5; rw [mO,if_pos hd]; rfl
        rw [e1]; exact nQ
      · exact wG (by unfold x5; rw [mO,hd,if_neg eC,eK]; rfl)
  · rintro ρ ⟨b6,b7,_,_,_,_,_,rfl,rfl,rfl,rfl,rfl,rfl⟩
    rw [List.length_zipIdx,wH,wH,CC]
    · exact hq
    · intro j m hj he
      unfold endsAt at he
      split at he
      · rename_i ho
        obtain ⟨e,h1,h2,h3,_⟩:=end_is W hj ho
        rw [h1] at he
        cases he
        exact h3
      · cases he
end
end V7
namespace Lay
open PySem L2 VT Gen K5
abbrev iH:Stmt:=inClass (top 16) 0
structure V9 (mg:Str→Option Value):Prop where
 len:mg "len" = none
 min:mg "min" = none
structure QK (K:KFr) (C:Addr):Prop where
 cl:yi K C
 eO:a_ K C "program"
 Bg:a_ K C "heads"
 GU:a_ K C "ends"
 La:a_ K C "elses"
 Lb:a_ K C "homes"
 zc:a_ K C "defs"
 GW:a_ K C "main"
def kG (C:Addr) (ts:List T) (q:T→Prop):Prop:=∃ rs:List Rw,ts=[.lst (rs.map a8)]∧K0 rs∧rs.length≤100∧q (dc C rs)
section
variable {P:Program} {w:World} {K:KFr} {mg:Str→Option Value} {base:Heap} {ay:Addr}
abbrev GX:List Str:=["self","program","parts"]
theorem sd:aC GX ["self","program"] (ah iH):=L2.gj
theorem CN {f:Addr} {fd:FuncData} (D:Dc K mg "Layout" "Layout.__init__" iH ["self","program"] ay f fd) (M:V9 mg) (M1:QK K ay) (Lc:cy P w K mg base "shape" ["program"] 1 (Vb K 1 V7.GP)) (ui:cy P w K mg base "first_defs" ["program"] 1 (cT K 1 GO)):FC P w K mg base "Layout" ay ["self","program"] 2 1 (kG ay):=by
 obtain ⟨Yn,V_,Ld,Lf,Lg,Lh⟩:=Lc
 obtain ⟨Li,IS,uj,uk,um,uo⟩:=ui
 refine D.gJ (fnI D.F sd rfl fun bu A outer s H E as Ox hr us q hl hG=>?_)
 have nd:=sd.nd
 have aB:=M1
 refine ⟨_,(aj (bh (i:=2) nd rfl (Or.inl rfl) (VP.vx (VD.vp (Kw Lh (hr.mono (by decide)) (by rfl) Ld Lf Lg (ae (aq 1) ak)))) (UY (by decide)))
   (aj (gT 0 aB.cl aB.eO (aq 1))
   (aj (gT 0 aB.cl aB.Bg (VP.ve (aH (aa 2) (VP.vr af))))
   (aj (gT 0 aB.cl aB.GU (VP.ve (aH (aa 2) (VP.vr af))))
   (aj (gT 0 aB.cl aB.La (VP.ve (aH (aa 2) (VP.vr af))))
   (aj (gT 0 aB.cl aB.Lb (VP.ve (aH (aa 2) (VP.vr af))))
   (aj (gT 0 aB.cl aB.zc (VP.ve (aV uo (hr.mono (by decide)) (by rfl) uj uk um (ae (aq 1) ak))))
   (ar (gT 0 aB.cl aB.GW (VP.ve (kb (M_ (VP.vr (bq Cj yM (by rfl) M.len rh (aE (VP.vr (bD aB.cl aB.zc (aa 0))) aQ))) (VP.vr af)) (yN rfl (by rfl) M.min (VP.vr (bD aB.cl aB.zc (aa 0)))) cQ))))))))))),?_⟩
 obtain ⟨rs,rfl,W,hn,hq⟩:=hG
 refine ⟨rfl,rs,rfl,W,hn,?_⟩
 rw [Gv]
 refine ⟨rfl,by show 0 < 1000; decide,?_⟩
 refine ⟨rfl,_,ai (j:=0) rfl,by show 1 < 1000; decide,?_⟩
 refine ⟨rfl,_,ai (j:=1) rfl,by show 2 < 1000; decide,?_⟩
 refine ⟨rfl,_,ai (j:=2) rfl,by show 3 < 1000; decide,?_⟩
 refine ⟨rfl,_,ai (j:=3) rfl,by show 4 < 1000; decide,?_⟩
 refine ⟨rfl,rfl,rs,rfl,hn,by show 5 < 1000; decide,?_⟩
 refine ⟨rfl,?_⟩
 refine ⟨rfl,_,rfl,?_⟩
 refine jt (fun h=>?_) (fun h=>?_)
 · refine ⟨rfl,_,rfl,(bj rs rs.length).map (fun p=>(p.2:Int)),?_,?_,fun m h1 h2=>?_⟩
   · rw [Ap]; rfl
   · intro z
     rw [List.map_eq_nil_iff] at z
     rw [z] at h
     exact absurd h (by decide)
   · refine ⟨by show 6 < 1000; decide,?_⟩
     have e:=Gu h1 h2
     show q [_] _
     rw [e]
     exact hq
 · refine ⟨by show 6 < 1000; decide,?_⟩
   have z:bj rs rs.length=[]:=by
    cases e:bj rs rs.length with
    | nil=>rfl
    | cons a b =>
      exfalso
      apply h
      rw [e]
      simp
   have e:dN rs=none:=by
    cases e:dN rs with
    | none=>rfl
    | some i =>
      obtain ⟨⟨g,ps,hi⟩,hm⟩:=r0 e
      obtain ⟨l,hl⟩:=iF hi hm rs.length (fG.mp hi).1
      rw [z] at hl
      cases hl
   have e2:T.aT=oT (dN rs):=by rw [e]; rfl
   unfold dc at hq
   rw [← e2] at hq
   exact hq
end
end Lay
namespace VT
open PySem PySem.Spec PyProof.Rows L2
def QL:FS:=fun _ _=>False
theorem l9 {X:Cx} {Z:Zc} {ss:List Stmt}:m8 X Z ss QL:=.mk fun tm=>fun pins s σ H D I h=>by
 obtain ⟨_,_,_,_,q,_⟩:=h
 exact q.elim
end VT
namespace Nx
open PySem L2 VT Gen K5 Lay
abbrev gY:Stmt:=top 19
def GY (r:Rw):Prop:=wd r≠"else"∧wd r≠"end"
def GZ (C:Addr) (ts:List T) (q:Rt→Prop):Prop:=∃ (rs:List Rw) (j:Nat) (r:Rw),ts=[dc C rs,.int (j:Int)]∧GY r∧rs[j]?=some r∧q (.vw (.int ((j+1:Nat):Int)))
section
variable {P:Program} {w:World} {K:KFr} {mg:Str→Option Value} {base:Heap} {ay:Addr}
abbrev uq:List Str:=["layout","place","word","head"]
theorem jH:aC uq ["layout","place"] (ah gY):=L2.gj
theorem qK {f:Addr} {fd:FuncData} (D:Df K mg "row_behind" gY ["layout","place"] f fd) (M:QK K ay):cy P w K mg base "row_behind" ["layout","place"] 1 (cT K 2 (GZ ay)):=by
 refine D.gJ (kj D.F jH rfl fun bu A outer s H E Ox hr ts q hG=>?_)
 have nd:=jH.nd
 have hu:=bz.gx hr
 have np:∀ {i:Nat},br ⟨H,[],Ox⟩ i:=ki
 have aB:=M
 refine ⟨_,(aj (bh (i:=2) nd rfl (Or.inl rfl) (VP.vx (aH (VP.vr (aH (VP.vr (bD aB.cl aB.eO (aa 0))) (aa 1))) (VP.vr af))) np)
  (aj (bh (i:=3) nd rfl (Or.inl rfl) (VP.vx (aH (VP.vr (bD aB.cl aB.Bg (aa 0))) (aa 1))) np)
  (aj (bE (cp hu (aa 2) (VP.vr aM))
    (ar (aJ (VP.vx (aH (VP.vr (bD aB.cl aB.GU (aa 0))) (aa 3)))))
    aO)
  (aj (bE (VW.vc (sT (cp hu (aa 2) (VP.vr aM)) (nG (cp hu (VP.vr (aH (VP.vr (aH (VP.vr (bD aB.cl aB.eO (aa 0))) (aa 3))) (VP.vr af))) (VP.vr aM)))))
    (ar (aJ (VP.vx (VE.vp (aq 3)))))
    aO)
  (ar (aJ (VP.vx (cu (aa 1) (VP.vr af))))))))),fun _=>?_⟩
 obtain ⟨rs,j,r,rfl,ho,dY,hq⟩:=hG
 have hh:=QD (fG.mp dY).1
 obtain ⟨l,el⟩:=KU r
 refine ⟨rfl,_,rfl,_,o8 dY,?_⟩
 rw [el]
 refine ⟨_,ai (j:=0) rfl,rfl,_,rfl,_,hh,jt (fun z=>absurd z ho.1) (fun _=>jt (fun z=>absurd z ho.2) (fun _=>E7 rfl hq))⟩
end
end Nx
namespace VT
open PySem PySem.Spec PyProof.Rows L2
section
variable {X:Cx} {Z:Zc} {e vv sl:Expr} {es:List Expr} {fe:FE} {x:Str} {p sp pos:Pos} {a:Addr} {l:List (Str×T)} {k n:Nat} {g:FA}
def V' (l:List (Str×T)) (fe:FE):FP:=fun ρ Q=>fe ρ fun y=>onStr y fun k=>∃ t,Cn l k=some t∧Q (.vw t)
theorem G0 (hg:Gl X x) (hm:X.mg x=some (.ref a)) (d:oU X.w X.K a l) (he:VR X Z e fe) (hs:Kn e:=by intro _ _; rfl) (hd:ic x:=by decide) :
  VP X Z (.Subscript (.Name x p) e pos) (V' l fe):=.mk fun tm pins s σ H Q I ⟨ρ,O,q,E,hf,k⟩=>by
 refine AW PySem.F.slot_dict_getitem.lookup hs (cm (sG hg hm (v:=.ref a) rfl hd pins s σ H (fun v H'=>v = .ref a∧H'=H) I ⟨rfl,rfl⟩) fun u s1 ⟨x',H1,I1,rx,ex,eH⟩=>?_)
 subst ex eH
 obtain rfl:u=Value.ref a:=rx
 refine cm (he tm pins s1 σ H1 (fun y H2=>∃ t,gq X.K H2 (av Z O) t y∧aN H1 H2∧onStr t fun k=>∃ t',Cn l k=some t'∧q (.vw t')) I1 ⟨ρ,O,_,E,hf,fun t ht v H' s a1=>⟨t,a1,s,ht⟩⟩) fun iv s2 ⟨y,H2,I2,ry,t,a1,sa,q3⟩=>?_
 obtain ⟨kk,et,t',hg',q4⟩:=wa q3
 subst et
 obtain ⟨kc,SR,IP,Kr,Ci,UZ⟩:=d.of I2
 have ey:=a1.str
 subst ey
 obtain ⟨v,ev,av'⟩:=(fQ (IP H2 (av Z O))).1 t' hg'
 obtain ⟨w',hw,rw'⟩:=jq.some_of (v:=v) (o:=valueAt SR (Sum.inr kk)) (by rw [← ev,← ee]; exact Kr.val (Sum.inr kk))
 exact ⟨Ci.typeIs,wpAny_getItem_of (oR (k:=Sum.inr kk) ry) Ci.mapOf hw ⟨v,H2,I2.tok _,rw',k _ q4 _ H2 sa ⟨E.same sa,av'⟩⟩⟩
def QM (ff:FP) (n:Nat) (g:FA) (Fn:Addr→GV→Prop):FP:=fun ρ Q=>ff ρ fun r=>match r with
 | .vw (.ob f)=>∃ G,Fn f G∧g ρ fun ts=>ts.length=n∧G ts Q
 | _=>False
theorem kH (args:List Expr) (keywords:List Keyword) (env:Env):eval (.Call (.Subscript vv sl sp) args keywords pos) env=(do
 callWith pos (← eval (.Subscript vv sl sp) env) [] (backTo pos (starEach args env)) (backToKw pos (keywordEach keywords env))):=rfl
theorem G1 {ff:FP} {Fn:Addr→GV→Prop} (hx:VP X Z (.Subscript vv sl sp) ff) (C:∀ f G,Fn f G→PySem.W.keepIn X.K (.ref f)=true∧∃ fd ps,Binds X.K fd ps []∧b_ X.prog X.w X.K X.mg X.base dI k f fd ps (cT X.K n G)) (hr:bz k X.A) (ha:VA X Z (e :: es) g)
  (he:starEach (e :: es) X.env=(false,eval e X.env) :: starEach es X.env:=by rfl) (jy:(backTo pos (starEach es X.env)).any (·.1)=false:=by rfl) :
  VP X Z (.Call (.Subscript vv sl sp) (e :: es) [] pos) (QM ff n g Fn):=.mk fun tm pins s σ H Q I ⟨ρ,O,q,E,hf,kk⟩=>by
 rw [kH]
 refine wpAny_bind (cm (hx tm pins s σ H (fun v H'=>∃ f G,v = .ref f∧aN H H'∧Fn f G∧g ρ fun ts=>ts.length=n∧G ts q) I ⟨ρ,O,_,E,hf,fun r hr v H' s z=>?_⟩) fun u s1 ⟨v,H1,I1,r,f,G,ev,sa,Qp,hg⟩=>?_)
 · split at hr
   · obtain ⟨G,Qp,hg⟩:=hr
     have:=z.2
     simp only [At] at this
     exact ⟨_,G,this,s,Qp,hg⟩
   · exact hr.elim
 · subst ev
   obtain rfl:u=Value.ref f:=r
   obtain ⟨hk,fd,ps,hb,F⟩:=C f G Qp
   have E1:=E.same sa
   refine XI (h₀:=X.base) I1.ok.mod.SG hk (cm (ha tm pos pins s1 σ H1 (fun vs H2=>cT X.K n G (vs ++ []) H2 Q E0) I1 ⟨ρ,O,_,E1,hg,fun ts eL vs H2 s2 a2=>AQ (E1.same s2) a2 eL.1 eL.2 fun r hr v H' s z=>kk r hr v H' ((sa.trans s2).trans s) z⟩) fun us s2 ⟨vs,H2,I2,r2,q2⟩=>⟨I2.qk,?_⟩) he jy
   exact yr F hr hb .nil jz I2 r2 q2
end
end VT
set_option exponentiation.threshold 4000
namespace l_
open PySem L2 VT
def top (i:Nat):Stmt:=PySem.Challenge.pw_slicewise_k12_straight_rows.main.body.getD i (.Pass ⟨0,0,0,0⟩)
abbrev mR:Stmt:=top 21
abbrev iI:Stmt:=top 22
abbrev iJ:Stmt:=top 23
abbrev zd:Stmt:=top 24
abbrev ur:Stmt:=top 25
abbrev uu:Stmt:=top 26
abbrev ze:Stmt:=top 27
abbrev zg:Stmt:=top 28
abbrev zh:Stmt:=top 29
abbrev cX:Stmt:=top 31
def cv (i:Int):Int:=(i+1000000000000000000000000000000) % (2 * 1000000000000000000000000000000) - 1000000000000000000000000000000
def RI (i:Int):Prop:=-1000000000000000000000000000000≤i∧i < 1000000000000000000000000000000
theorem t5 (i:Int):RI (cv i):=by unfold RI cv; omega
theorem RI.big {i:Int} (h:RI i):lH i:=by
 unfold RI at h
 unfold lH
 have:i.natAbs≤1000000000000000000000000000000:=by omega
 exact XJ this (by decide +kernel)
inductive Vl where
 | num (i:Int)
 | QN (p r:Int)
 deriving DecidableEq
def vT:Vl→T
 | .num i=>.int i
 | .QN p r=>.tup [.int p,.int r]
def nm:Vl→Int
 | .num i=>i
 | .QN _ _=>0
inductive CO where
 | plus | minus | times | over | rest | less
def kJ:CO→Str
 | .plus=>"plus"
 | .minus=>"minus"
 | .times=>"times"
 | .over=>"over"
 | .rest=>"rest"
 | .less=>"less"
def zi:CO→Bool
 | .over=>true
 | .rest=>true
 | _=>false
def Lj:CO→Int→Int→Int
 | .plus,x,y=>x+y
 | .minus,x,y=>x - y
 | .times,x,y=>x * y
 | .over,x,y=>x.fdiv y
 | .rest,x,y=>x.fmod y
 | .less,x,y=>if x < y then 1 else 0
def Wa (o:CO) (x y:Int):T:=if zi o=true∧y=0 then .aT else .int (cv (Lj o x y))
def se (a b:Vl):T:=.int (if a=b then 1 else 0)
theorem Gi:(10:Int) ^ (30:Int).toNat=1000000000000000000000000000000:=by decide +kernel
theorem bgS {i:Int} (h : -100000000000000≤i∧i≤100000000000000):lH i:=by
 unfold lH
 have:i.natAbs≤100000000000000:=by omega
 exact XJ this (by decide +kernel)
theorem bg (i:Int) (h : -100000000000000≤i∧i≤100000000000000:=by decide):lH i:=bgS h
theorem Wb:lH (10 ^ (30:Int).toNat):=lH.of (by decide +kernel) (by decide +kernel)
theorem pw (j:Int) (h:0≤j∧j≤1000:=by decide):0≤j∧j≤1000∧lH 10:=⟨h.1,h.2,bg 10⟩
structure Mg (w:World) (K:KFr) (mg:Str→Option Value):Prop where
 H:∃ t,mg "H" = some (.int 1000000000000000000000000000000 t)
 CP:∃ a,mg "DIVISIONS" = some (.ref a)∧∀ H,dG K H a [.str "over",.str "rest"]
 isinstance:mg "isinstance" = none
 int:mg "int" = none
 bool:mg "bool" = none
 tuple:mg "tuple" = none
 len:mg "len" = none
 range:mg "range" = none
 RK:∃ (a:Addr) (fo:CO→Addr),mg "RECKONERS" = some (.ref a)∧(∀ o,mg (kJ o)=some (.ref (fo o)))∧oU w K a [("plus",.ob (fo .plus)),("minus",.ob (fo .minus)),("times",.ob (fo .times)),("over",.ob (fo .over)),("rest",.ob (fo .rest)),("less",.ob (fo .less))]
def CQ (ts:List T) (q:Rt→Prop):Prop:=∃ i,ts=[.int i]∧q (.vw (.int (cv i)))
def Wc (ts:List T) (q:Rt→Prop):Prop:=∃ a:Vl,ts=[vT a]∧q (.vw (.bl (match a with | .num _=>false | .QN _ _=>true)))
def gNm (ts:List T) (q:Rt→Prop):Prop:=∃ a:Vl,ts=[vT a]∧q (.vw (.int (nm a)))
def Ll (o:CO) (ts:List T) (q:Rt→Prop):Prop:=∃ x y:Int,ts=[.int x,.int y]∧lH x∧lH y∧(zi o=true→y≠0)∧q (.vw (.int (Lj o x y)))
abbrev NR:=Ll .plus
abbrev G2:=Ll .minus
abbrev G3:=Ll .times
abbrev NS:=Ll .over
abbrev NT:=Ll .rest
abbrev NU:=Ll .less
def G4 (ts:List T) (q:Rt→Prop):Prop:=(∃ a b,ts=[vT a,.str "same",vT b]∧q (.vw (se a b)))∨(∃ a b o,ts=[vT a,.str (kJ o),vT b]∧RI (nm a)∧RI (nm b)∧q (.vw (Wa o (nm a) (nm b))))
theorem Wd (a b:Vl):eqT (vT a) (vT b)=decide (a=b):=by
 cases a <;> cases b <;> simp [vT,eqT,fE] <;> rfl
theorem We {a b:Vl} {q:Rt→Prop} (h:q (.vw (.bl (decide (a=b))))):MZ (vT a) (vT b) q:=by
 have e:=Wd a b
 cases a with
 | num i=>cases b with
   | num j =>
     have:decide (i=j)=decide (Vl.num i=Vl.num j):=decide_eq_decide.mpr (by simp)
     show q (.vw (.bl (decide (i=j))))
     rw [this]; exact h
   | QN p r=>exact ⟨rfl,rfl,by simp [vT,dep],by rw [← e] at h; exact h⟩
 | QN p r=>exact ⟨rfl,by cases b <;> rfl,by simp [vT,dep,fY],by rw [← e] at h; exact h⟩
theorem Lm {a b:Vl} {q:Rt→Prop} (h:q (.vw (se a b))):if decide (a=b)=true then q (.vw (.int 1)) else q (.vw (.int 0)):=by
 unfold se at h
 by_cases e:a=b
 · rw [if_pos (decide_eq_true e)]; rw [if_pos e] at h; exact h
 · rw [if_neg (by rw [decide_eq_false e]; exact eC)]; rw [if_neg e] at h; exact h
theorem G5 (o:CO):decide (kJ o=("same" : Str))=false:=by cases o <;> decide +kernel
theorem G6 (o:CO):Nh (.str (kJ o)) [.str "over",.str "rest"]=zi o:=by cases o <;> first | rfl | decide +kernel
section
variable {P:Program} {w:World} {K:KFr} {mg:Str→Option Value} {base:Heap}
abbrev Bh:List Str:=["number"]
theorem pk:aC Bh ["number"] (ah mR):=L2.gj
theorem zj {f:Addr} {fd:FuncData} (D:Df K mg "fit" mR ["number"] f fd) (M:Mg w K mg):cy P w K mg base "fit" ["number"] 1 (cT K 1 CQ):=by
 refine D.gJ (kj D.F pk rfl fun bu A outer s H E Ox hr ts q hG=>?_)
 have nd:=pk.nd
 obtain ⟨tH,mH⟩:=M.H
 have g_H:∀ {pos},VP (eG dI P w K mg base Bh "fit" (ah mR) f bu A outer s H E).nZ ⟨H,[],Ox⟩ (.Name "H" pos) (fC (.int 1000000000000000000000000000000)):=gP (by rfl) mH (v:=.int 1000000000000000000000000000000) ⟨_,rfl⟩ fun _ _=>bb
 refine ⟨_,(ar (aJ (VP.vx (jM (VP.vr (bx (VP.vr (cu (aa 0) (VP.vr g_H))) (VP.vr (nL (VP.vr af) (VP.vr g_H))))) (VP.vr g_H))))),fun _=>?_⟩
 obtain ⟨i,rfl,hq⟩:=hG
 exact ⟨⟨bg 2,lH.of (by decide +kernel) (by decide +kernel)⟩,(by show (0:Int) < 2 * 1000000000000000000000000000000; decide),hq⟩
abbrev wQ:List Str:=["value"]
theorem kK:aC wQ ["value"] (ah iI):=L2.gj
theorem uv {f:Addr} {fd:FuncData} (D:Df K mg "is_record" iI ["value"] f fd) (M:Mg w K mg):cy P w K mg base "is_record" ["value"] 1 (cT K 1 Wc):=by
 refine D.gJ (kj D.F kK rfl fun bu A outer s H E Ox hr ts q hG=>?_)
 have nd:=kK.nd
 refine ⟨_,(ar (aJ (VP.vx (du eW (by rfl) M.isinstance (by rfl) M.tuple fP (aa 0))))),fun _=>?_⟩
 obtain ⟨a,rfl,hq⟩:=hG
 cases a with
 | num i=>exact ⟨rfl,hq⟩
 | QN p r=>exact ⟨rfl,hq⟩
abbrev wR:List Str:=["value"]
theorem kM:aC wR ["value"] (ah iJ):=L2.gj
theorem uw {f:Addr} {fd:FuncData} (D:Df K mg "number_of" iJ ["value"] f fd) (M:Mg w K mg) (wU:cy P w K mg base "is_record" ["value"] 1 (cT K 1 Wc)):cy P w K mg base "number_of" ["value"] 2 (cT K 1 gNm):=by
 obtain ⟨NV,Ln,wV,wW,wX,wY⟩:=wU
 refine D.gJ (kj D.F kM rfl fun bu A outer s H E Ox hr ts q hG=>?_)
 have nd:=kM.nd
 refine ⟨_,(ar (aJ (VP.vx (kb (dw (aV wY (hr.mono (by decide)) (by rfl) wV wW wX (ae (aq 0) ak))) af (VE.vp (aq 0)))))),fun _=>?_⟩
 obtain ⟨a,rfl,hq⟩:=hG
 refine ⟨rfl,a,rfl,?_⟩
 cases a with
 | num i=>exact hq
 | QN p r=>exact hq
abbrev QO:List Str:=["one","other"]
theorem Bi:aC QO ["one","other"] (ah zd):=L2.gj
theorem Lo {f:Addr} {fd:FuncData} (D:Df K mg "plus" zd ["one","other"] f fd) (M:Mg w K mg):cy P w K mg base "plus" ["one","other"] 1 (cT K 2 NR):=by
 refine D.gJ (kj D.F Bi rfl fun bu A outer s H E Ox hr ts q hG=>?_)
 have nd:=Bi.nd
 refine ⟨_,(ar (aJ (VP.vx (cu (aa 0) (aa 1))))),fun _=>?_⟩
 obtain ⟨x,y,rfl,hx,hy,_,hq⟩:=hG
 exact hq
abbrev Lp:List Str:=["one","other"]
theorem wZ:aC Lp ["one","other"] (ah ur):=L2.gj
theorem G7 {f:Addr} {fd:FuncData} (D:Df K mg "minus" ur ["one","other"] f fd) (M:Mg w K mg):cy P w K mg base "minus" ["one","other"] 1 (cT K 2 G2):=by
 refine D.gJ (kj D.F wZ rfl fun bu A outer s H E Ox hr ts q hG=>?_)
 have nd:=wZ.nd
 refine ⟨_,(ar (aJ (VP.vx (jM (aa 0) (aa 1))))),fun _=>?_⟩
 obtain ⟨x,y,rfl,hx,hy,_,hq⟩:=hG
 exact hq
abbrev Lq:List Str:=["one","other"]
theorem w_:aC Lq ["one","other"] (ah uu):=L2.gj
theorem G8 {f:Addr} {fd:FuncData} (D:Df K mg "times" uu ["one","other"] f fd) (M:Mg w K mg):cy P w K mg base "times" ["one","other"] 1 (cT K 2 G3):=by
 refine D.gJ (kj D.F w_ rfl fun bu A outer s H E Ox hr ts q hG=>?_)
 have nd:=w_.nd
 refine ⟨_,(ar (aJ (VP.vx (nL (aa 0) (aa 1))))),fun _=>?_⟩
 obtain ⟨x,y,rfl,hx,hy,_,hq⟩:=hG
 exact ⟨⟨hx,hy⟩,hq⟩
abbrev QP:List Str:=["one","other"]
theorem Bj:aC QP ["one","other"] (ah ze):=L2.gj
theorem Lr {f:Addr} {fd:FuncData} (D:Df K mg "over" ze ["one","other"] f fd) (M:Mg w K mg):cy P w K mg base "over" ["one","other"] 1 (cT K 2 NS):=by
 refine D.gJ (kj D.F Bj rfl fun bu A outer s H E Ox hr ts q hG=>?_)
 have nd:=Bj.nd
 refine ⟨_,(ar (aJ (VP.vx (vX (aa 0) (aa 1))))),fun _=>?_⟩
 obtain ⟨x,y,rfl,hx,hy,hd,hq⟩:=hG
 exact ⟨⟨hd rfl,hy⟩,hq⟩
abbrev QQ:List Str:=["one","other"]
theorem Bk:aC QQ ["one","other"] (ah zg):=L2.gj
theorem Ls {f:Addr} {fd:FuncData} (D:Df K mg "rest" zg ["one","other"] f fd) (M:Mg w K mg):cy P w K mg base "rest" ["one","other"] 1 (cT K 2 NT):=by
 refine D.gJ (kj D.F Bk rfl fun bu A outer s H E Ox hr ts q hG=>?_)
 have nd:=Bk.nd
 refine ⟨_,(ar (aJ (VP.vx (AU (aa 0) (aa 1))))),fun _=>?_⟩
 obtain ⟨x,y,rfl,hx,hy,hd,hq⟩:=hG
 exact ⟨hd rfl,hq⟩
abbrev QR:List Str:=["one","other"]
theorem Bl:aC QR ["one","other"] (ah zh):=L2.gj
theorem Lu {f:Addr} {fd:FuncData} (D:Df K mg "less" zh ["one","other"] f fd) (M:Mg w K mg):cy P w K mg base "less" ["one","other"] 1 (cT K 2 NU):=by
 refine D.gJ (kj D.F Bl rfl fun bu A outer s H E Ox hr ts q hG=>?_)
 have nd:=Bl.nd
 refine ⟨_,(ar (aJ (VP.vx (kb (vK (aa 0) (aa 1)) af af)))),fun _=>?_⟩
 obtain ⟨x,y,rfl,hx,hy,_,hq⟩:=hG
 have h7:q (.vw (.int (if x < y then 1 else 0))):=hq
 refine jt (fun h=>?_) (fun h=>?_)
 · have h':x < y:=h
   rw [if_pos h'] at h7; exact h7
 · have h':¬ x < y:=h
   rw [if_neg h'] at h7; exact h7
abbrev gZ:List Str:=["one","word","other","left","right"]
theorem ez:aC gZ ["one","word","other"] (ah cX):=L2.gj
theorem iK {f:Addr} {fd:FuncData} (D:Df K mg "reckoned" cX ["one","word","other"] f fd) (M:Mg w K mg) (pq:cy P w K mg base "fit" ["number"] 1 (cT K 1 CQ)) (xa:cy P w K mg base "number_of" ["value"] 2 (cT K 1 gNm)) (QS:cy P w K mg base "plus" ["one","other"] 1 (cT K 2 NR)) (Lv:cy P w K mg base "minus" ["one","other"] 1 (cT K 2 G2)) (Lw:cy P w K mg base "times" ["one","other"] 1 (cT K 2 G3)) (QT:cy P w K mg base "over" ["one","other"] 1 (cT K 2 NS)) (QU:cy P w K mg base "rest" ["one","other"] 1 (cT K 2 NT)) (QV:cy P w K mg base "less" ["one","other"] 1 (cT K 2 NU)):cy P w K mg base "reckoned" ["one","word","other"] 3 (cT K 3 G4):=by
 obtain ⟨G9,zk,iL,iM,iN,iO⟩:=pq
 obtain ⟨NW,Lx,mT,mU,mV,mW⟩:=xa
 obtain ⟨acE,Yo,QW,QX,QY,QZ⟩:=QS
 obtain ⟨Yp,Wf,Ly,Lz,LA,LB⟩:=Lv
 obtain ⟨Yq,Wg,LC,LD,LF,LG⟩:=Lw
 obtain ⟨acF,Yr,Q0,Q1,Q2,Q3⟩:=QT
 obtain ⟨acG,Yt,Q5,Q6,Q7,Q8⟩:=QU
 obtain ⟨acH,Yu,Q9,Q_,Ra,Rb⟩:=QV
 refine D.gJ (kj D.F ez rfl fun bu A outer s H E Ox hr ts q hG=>?_)
 have nd:=ez.nd
 have hu:=bz.gx hr
 have np:∀ {i:Nat},br ⟨H,[],Ox⟩ i:=ki
 obtain ⟨aD,mD,hD⟩:=M.CP
 obtain ⟨aR,fo,xb,Ph,ux⟩:=M.RK
 have xc:∀ {pos},VP (eG dI P w K mg base gZ "reckoned" (ah cX) f bu A outer s H E).nZ ⟨H,[],Ox⟩ (.Name "DIVISIONS" pos) (fC (.tup [.str "over",.str "rest"])):=gP (by rfl) mD (v:=.ref aD) rfl fun H A=>bX (hD H) (az.cons cP (az.cons cP az.nil))
 have xf:∀ f' G,(∃ o:CO,f'=fo o∧G=Ll o)→PySem.W.keepIn K (.ref f')=true∧∃ fd ps,Binds K fd ps []∧b_ P w K mg base dI 1 f' fd ps (cT K 2 G):=by
  rintro f' G ⟨o,rfl,rfl⟩
  have h:=Ph o
  cases o with
  | plus=>cases QW.symm.trans h; exact ⟨QX,_,_,QY,QZ⟩
  | minus=>cases Ly.symm.trans h; exact ⟨Lz,_,_,LA,LB⟩
  | times=>cases LC.symm.trans h; exact ⟨LD,_,_,LF,LG⟩
  | over=>cases Q0.symm.trans h; exact ⟨Q1,_,_,Q2,Q3⟩
  | rest=>cases Q5.symm.trans h; exact ⟨Q6,_,_,Q7,Q8⟩
  | less=>cases Q9.symm.trans h; exact ⟨Q_,_,_,Ra,Rb⟩
 refine ⟨_,(aj (bE (cp hu (aa 1) (VP.vr aM))
    (ar (aJ (VP.vx (kb (cp hu (aa 0) (aa 2)) af af))))
    aO)
   (aj (bh (i:=3) nd rfl (Or.inl rfl) (VP.vx (aV mW (hr.mono (by decide)) (by rfl) mT mU mV (ae (aq 0) ak))) np)
   (aj (bh (i:=4) nd rfl (Or.inl rfl) (VP.vx (aV mW (hr.mono (by decide)) (by rfl) mT mU mV (ae (aq 2) ak))) np)
   (aj (bE (VW.vc (sT (rN (aa 1) (VP.vr xc)) (nG (cp hu (aa 4) (VP.vr af)))))
     (ar (aJ (VP.vx cQ)))
     aO)
   (ar (aJ (VP.vx (aV iO (hr.mono (by decide)) (by rfl) iL iM iN (ae (VP.ve (G1 (G0 (by rfl) xb ux (aa 1)) xf (hr.mono (by decide)) (ae (aq 3) (ae (aq 4) ak)))) ak))))))))),fun _=>?_⟩
 rcases hG with ⟨a,b,rfl,hq⟩ | ⟨a,b,o,rfl,ha,hb,hq⟩
 · show MZ (vT a) (vT b) (fun r=>match r with
    | .vw (.bl c)=>(if c=true then q (.vw (.int 1)) else q (.vw (.int 0)))
    | _=>False)
   exact We (Lm hq)
 · refine E7 (c:=decide (kJ o=("same" : Str))) (G5 o) ?_
   refine ⟨rfl,a,rfl,rfl,b,rfl,rfl,rfl,?_⟩
   have h7:q (.vw (if zi o=true∧nm b=0 then .aT else .int (cv (Lj o (nm a) (nm b))))):=hq
   have go:(zi o=true→nm b≠0)→q (.vw (.int (cv (Lj o (nm a) (nm b)))))→∃ t,Cn [("plus",.ob (fo .plus)),("minus",.ob (fo .minus)),("times",.ob (fo .times)),("over",.ob (fo .over)),("rest",.ob (fo .rest)),("less",.ob (fo .less))] (kJ o)=some t∧(match Rt.vw t with
    | .vw (.ob f)=>∃ G,(∃ o:CO,f=fo o∧G=Ll o)∧([T.int (nm a),T.int (nm b)].length=2∧G [T.int (nm a),T.int (nm b)] fun r=>([r.t].length=1∧CQ [r.t] q))
    | _=>False):=fun hd SO=>by
    refine ⟨.ob (fo o),by cases o <;> rfl,Ll o,⟨o,rfl,rfl⟩,rfl,nm a,nm b,rfl,ha.big,hb.big,hd,rfl,_,rfl,SO⟩
   refine yy (fun h=>?_) (fun h=>?_)
   · have h':zi o=true:=by rw [← G6]; exact h
     refine jt (fun h2=>?_) (fun h2=>?_)
     · have h3:nm b=0:=h2
       rw [if_pos ⟨h',h3⟩] at h7
       exact h7
     · have h3:¬ nm b=0:=h2
       rw [if_neg (fun z=>h3 z.2)] at h7
       exact go (fun _=>h3) h7
   · have h':¬ zi o=true:=fun z=>h (by rw [← G6] at z; exact z)
     rw [if_neg (fun z=>h' z.1)] at h7
     exact go (fun z=>(h' z).elim) h7
end
end l_
namespace Run
open PySem L2 VT Gen K5 Lay
open AG (c_)
open Nx (GZ GY)
open Nm (jx Bd)
open SY (Bf GN ud)
open l_ (Vl vT nm CO kJ Wa se G4 CQ)
def top (i:Nat):Stmt:=PySem.Challenge.pw_slicewise_k12_straight_rows.main.body.getD i (.Pass ⟨0,0,0,0⟩)
abbrev kN:Stmt:=inClass (top 34) 0
abbrev gC:Stmt:=inClass (top 35) 0
abbrev uy:Stmt:=top 36
abbrev jV:Stmt:=top 37
abbrev ma:Stmt:=top 38
abbrev eZ:Stmt:=top 39
abbrev gf:Stmt:=top 40
abbrev iP:Stmt:=top 41
abbrev gg:Stmt:=top 45
abbrev jW:Stmt:=top 49
abbrev uz:Stmt:=top 50
abbrev fS:Stmt:=top 52
abbrev e6:Stmt:=top 51
structure MgR (mg:Str→Option Value):Prop where
 len:mg "len" = none
 enumerate:mg "enumerate" = none
 tuple:mg "tuple" = none
structure S3 (K:KFr) (C:Addr):Prop where
 cl:yi K C
 G_:a_ K C "call"
 kO:a_ K C "names"
structure DS (K:KFr) (C:Addr):Prop where
 cl:yi K C
 e7:a_ K C "layout"
 G':a_ K C "most"
 uA:a_ K C "poke"
 iQ:a_ K C "frames"
 LH:a_ K C "cells"
 Ha:a_ K C "counts"
 iR:a_ K C "doings"
 eJ:a_ K C "place"
 g9:a_ K C "ended"
def Hb (C:Addr) (ts:List T) (q:T→Prop):Prop:=∃ t1 t2,ts=[t1,t2]∧q (.ins C ["call","names"] [t1,t2])
def Wh (cM cF:Addr) (ts:List T) (q:Rt→Prop):Prop:=∃ a L most e dn pl en o n,ts=[.pin a (mt cM cF L most [e] dn pl en),eM o]∧t6 o∧gd e n∧n≤1000∧q (.vw (.int (ba e o)))
def Wi (r:Rw) (us:List T) (t:T):Prop:=match r with
 | .df _ _=>t = .aT
 | .put _ _=>∃ v,us=[.int v]∧t = .int v
 | .give _=>∃ v,us=[.int v]∧t = .int v
 | .kz _ _ op _=>∃ x y,us=[.int x,.int y]∧op∈reckon∧RI x∧RI y∧t=oI (t7 op x y)
 | _=>False
def Bn (ts:List T) (q:Rt→Prop):Prop:=∃ m r us t,ts=[m,a8 r,.tup us]∧Wi r us t∧q (.vw t)
structure Yv (rs:List Rw) (j:Nat) (r:Rw):Prop where
 at':rs[j]?=some r
 o:GY r
 n:rs.length≤100
def pv (cM cF cL:Addr) (us:List T) (s:S) (q:S→T→Prop):Prop:=∃ rs r j most fr dn u1 u2 u3,us=[u1,u2,u3]∧s=ms cM cF (dc cL rs) most fr dn (.int (j:Nat)) .aT∧Yv rs j r∧q (ms cM cF (dc cL rs) most fr dn (.int ((j+1:Nat):Int)) .aT) .aT
def mkN:Rw→Str→Prop
 | .put y _,x=>y=x
 | .kz y _ _ _,x=>y=x
 | _,_=>False
def md (cM cF cL:Addr) (us:List T) (s:S) (q:S→T→Prop):Prop:=∃ rs r j most e dn u2 x v,us=[a8 r,u2,.int v]∧bU u2=true∧s=ms cM cF (dc cL rs) most [e] dn (.int (j:Nat)) .aT∧Yv rs j r∧mkN r x∧e.is.length≤1000∧q (ms cM cF (dc cL rs) most [e.put x v] dn (.int ((j+1:Nat):Int)) .aT) .aT
def LI (cM cF cL:Addr) (us:List T) (s:S) (q:S→T→Prop):Prop:=∃ rs r j most e dn u2 x o,us=[a8 r,u2,oI o]∧bU u2=true∧s=ms cM cF (dc cL rs) most [e] dn (.int (j:Nat)) .aT∧Yv rs j r∧mkN r x∧e.is.length≤1000 ∧
 match o with
 | none=>q (ms cM cF (dc cL rs) most [e] dn (.int (j:Nat)) wJ) .aT
 | some v=>q (ms cM cF (dc cL rs) most [e.put x v] dn (.int ((j+1:Nat):Int)) .aT) .aT
def uB (cM cF cL:Addr) (us:List T) (s:S) (q:S→T→Prop):Prop:=∃ L most e dn pl u1 u2 v,us=[u1,u2,.int v]∧s=ms cM cF L most [e] dn pl .aT∧q (ms cM cF L most [] dn pl (jF v)) .aT
theorem LJ (o:CO) (x y:Int):Wa o x y=oI (t7 (kJ o) x y):=by
 unfold Wa t7
 cases o with
 | less =>
   show T.int (l_.cv (if x < y then 1 else 0))=T.int (if x < y then 1 else 0)
   split <;> rfl
 | over =>
   show (if true=true∧y=0 then T.aT else _)=oI (if y=0 then none else some (cv (x.fdiv y)))
   by_cases h:y=0
   · rw [if_pos ⟨rfl,h⟩,if_pos h]; rfl
   · rw [if_neg (fun z=>h z.2),if_neg h]; rfl
 | rest =>
   show (if true=true∧y=0 then T.aT else _)=oI (if y=0 then none else some (cv (x.fmod y)))
   by_cases h:y=0
   · rw [if_pos ⟨rfl,h⟩,if_pos h]; rfl
   · rw [if_neg (fun z=>h z.2),if_neg h]; rfl
 | _=>rfl
theorem LK (x y:Int):se (.num x) (.num y)=oI (t7 "same" x y):=by
 unfold se
 show T.int (if Vl.num x=Vl.num y then 1 else 0)=T.int (if x=y then 1 else 0)
 by_cases h:x=y
 · rw [if_pos h,if_pos (by rw [h])]
 · rw [if_neg h,if_neg (fun z=>h (Vl.num.inj z))]
theorem Wj {op:Str} (h:op∈reckon):op="same"∨∃ o:CO,op=kJ o:=by
 unfold reckon at h
 simp only [cY,gK,or_false] at h
 rcases h with rfl | rfl | rfl | rfl | rfl | rfl | rfl
 · exact .inr ⟨.plus,rfl⟩
 · exact .inr ⟨.minus,rfl⟩
 · exact .inr ⟨.times,rfl⟩
 · exact .inr ⟨.over,rfl⟩
 · exact .inr ⟨.rest,rfl⟩
 · exact .inr ⟨.less,rfl⟩
 · exact .inl rfl
section
variable {P:Program} {w:World} {K:KFr} {mg:Str→Option Value} {base:Heap} {ay cFrame aw:Addr}
abbrev LL:List Str:=["self","call","names"]
theorem xg:aC LL ["self","call","names"] (ah kN):=L2.gj
theorem Hc {f:Addr} {fd:FuncData} (D:Dc K mg "Frame" "Frame.__init__" kN ["self","call","names"] cFrame f fd) (M:S3 K cFrame):FC P w K mg base "Frame" cFrame ["self","call","names"] 1 2 (Hb cFrame):=by
 refine D.gJ (fnI D.F xg rfl fun bu A outer s H E as Ox hr us q hl hG=>?_)
 have nd:=xg.nd
 have bS:=M
 refine ⟨_,(aj (gT 0 bS.cl bS.G_ (aq 1))
  (ar (gT 0 bS.cl bS.kO (aq 2)))),?_⟩
 obtain ⟨t1,t2,rfl,hq⟩:=hG
 exact ⟨rfl,by show 0 < 1000; decide,rfl,by show 1 < 1000; decide,hq⟩
abbrev zm:List Str:=["machine","part"]
theorem mX:aC zm ["machine","part"] (ah jV):=L2.gj
theorem xh {f:Addr} {fd:FuncData} (D:Df K mg "value_of" jV ["machine","part"] f fd) (M:DS K aw) (M1:S3 K cFrame) (lV:cy P w K mg base "is_name" ["thing"] 1 (cT K 1 jx)):cy P w K mg base "value_of" ["machine","part"] 2 (cT K 2 (Wh aw cFrame)):=by
 obtain ⟨CJ,y7,lW,lY,lZ,l0⟩:=lV
 refine D.gJ (kj D.F mX rfl fun bu A outer s H E Ox hr ts q hG=>?_)
 have nd:=mX.nd
 have hu:=bz.gx hr
 have ag:=M
 have bS:=M1
 have qg:=v_ hu
 refine ⟨_,(ar (aJ (VP.vx (kb (dw (aV l0 (hr.mono (by decide)) (by rfl) lW lY lZ (ae (aq 1) ak))) (Fy qg (VP.vr (bD bS.cl bS.kO (VP.vr (aH (VP.vr (bD ag.cl ag.iQ (cD (aa 0)))) (VP.vr (ll (VP.vr af))))))) (aa 1) (VP.ve af) ⟨rfl,rfl,rfl,rfl⟩) (VE.vp (aq 1)))))),fun _=>?_⟩
 obtain ⟨a,L,most,e,dn,pl,en,o,n,rfl,ho,he,hn,hq⟩:=hG
 cases o with
 | nm x =>
   refine ⟨rfl,.str x,rfl,rfl,(fun y z=>by cases z; have:=ho.2; omega),?_⟩
   refine Z7 (c:=Bd (.str x)) ho.1 ?_
   refine ⟨rfl,_,rfl,Yl cFrame e,rfl,rfl,_,rfl,?_⟩
   show q (.vw ((bY e.ks e.ts (.inr x)).getD (.int 0)))
   rw [Gw]
   exact hq
 | nu i =>
   refine ⟨rfl,.int i,rfl,rfl,(fun y z=>by cases z),?_⟩
   exact hq
abbrev CS:List Str:=["machine","row","used","word"]
theorem pA:aC CS ["machine","row","used"] (ah ma):=L2.gj
theorem zo {f:Addr} {fd:FuncData} (D:Df K mg "made_by" ma ["machine","row","used"] f fd) (M:DS K aw) (jX:cy P w K mg base "reckoned" ["one","word","other"] 3 (cT K 3 G4)):cy P w K mg base "made_by" ["machine","row","used"] 4 (cT K 3 Bn):=by
 obtain ⟨zp,xi,jY,jZ,j1,j2⟩:=jX
 refine D.gJ (kj D.F pA rfl fun bu A outer s H E Ox hr ts q hG=>?_)
 have nd:=pA.nd
 have hu:=bz.gx hr
 have np:∀ {i:Nat},br ⟨H,[],Ox⟩ i:=ki
 have ag:=M
 refine ⟨_,(aj (bh (i:=3) nd rfl (Or.inl rfl) (VP.vx (aH (aa 1) (VP.vr af))) np)
   (aj (bE (cp hu (aa 3) (VP.vr aM))
     (ar (aJ (VP.vx (aV j2 (hr.mono (by decide)) (by rfl) jY jZ j1 (ae (VP.ve (aH (aa 2) (VP.vr af))) (ae (VP.ve (aH (aa 1) (VP.vr af))) (ae (VP.ve (aH (aa 2) (VP.vr af))) ak)))))))
     aO)
   (aj (bE (cp hu (aa 3) (VP.vr aM))
     l9
     aO)
   (aj (bE (cp hu (aa 3) (VP.vr aM))
     l9
     aO)
   (aj (bE (rN (aa 3) (VP.vr (bp (ae (VP.ve aM) (ae (VP.ve aM) ak)))))
     l9
     aO)
   (ar (aJ (VP.vx (kb (rN (aa 3) (VP.vr (bp (ae (VP.ve aM) (ae (VP.ve aM) (ae (VP.ve aM) ak)))))) (aH (aa 2) (VP.vr (ll (VP.vr af)))) cQ))))))))),fun _=>?_⟩
 obtain ⟨m,r,us,t,rfl,hk,hq⟩:=hG
 cases r with
 | df f' ps =>
   have e:t = .aT:=hk
   subst e
   exact ⟨_,ai (j:=0) rfl,cf (by simp),rfl,rfl,cf (by simp),rfl,rfl,hq⟩
 | put x a =>
   obtain ⟨v,rfl,rfl⟩:=hk
   exact ⟨_,ai (j:=0) rfl,cf (by simp),rfl,rfl,cf (by simp),rfl,rfl,_,rfl,hq⟩
 | give a =>
   obtain ⟨v,rfl,rfl⟩:=hk
   exact ⟨_,ai (j:=0) rfl,cf (by simp),rfl,rfl,cf (by simp),rfl,rfl,_,rfl,hq⟩
 | kz x a op b =>
   obtain ⟨x',y',rfl,hop,hx,hy,rfl⟩:=hk
   refine ⟨_,ai (j:=0) rfl,_,ai (j:=0) rfl,_,ai (j:=3) rfl,_,ai (j:=1) rfl,rfl,?_⟩
   rcases Wj hop with rfl | ⟨o,rfl⟩
   · exact .inl ⟨.num x',.num y',rfl,by rw [LK]; exact hq⟩
   · exact .inr ⟨.num x',.num y',o,rfl,hx,hy,by show q (.vw (Wa o x' y')); rw [LJ]; exact hq⟩
 | _=>exact hk.elim
end
def He (cM cF cL:Addr) (us:List T) (s:S) (q:S→T→Prop):Prop:=∃ rs j f ps gs most,us=[.int (j:Nat),.aT,.lst (gs.map .int)]∧s=ms cM cF (dc cL rs) most [] [] .aT .aT∧rs[j]?=some (.df f ps)∧ps.length≤100 ∧
 q (ms cM cF (dc cL rs) most [bo ps gs ps.length] [] (.int (j:Nat)) .aT) .aT
section
variable {P:Program} {w:World} {K:KFr} {mg:Str→Option Value} {base:Heap} {ay cFrame aw:Addr}
abbrev pB:List Str:=["machine","row","used","made"]
theorem ia:aC pB ["machine","row","used","made"] (ah eZ):=L2.gj
theorem nq {f:Addr} {fd:FuncData} (D:Df K mg "follow_plain" eZ ["machine","row","used","made"] f fd) (M:DS K aw) (g_:cy P w K mg base "row_behind" ["layout","place"] 1 (cT K 2 (GZ ay))):cy P w K mg base "follow_plain" ["machine","row","used","made"] 2 (nP K 3 (pv aw cFrame ay)):=by
 obtain ⟨uC,qM,hJ,hU,hW,hX⟩:=g_
 refine D.gJ (Qn D.F ia rfl (by decide) fun bu A outer s H E M0 A_ hr us s0 q hG hl=>?_)
 obtain ⟨Rc,zq,NX,a0,CT⟩:=M0
 have yV:CT=0:=A_
 subst yV
 have nd:=ia.nd
 have ag:=M
 refine ⟨_,(bZ (iD ag.cl ag.eJ (fun _=>(VP.ve (aV hX (hr.mono (by decide)) (by rfl) hJ hU hW (ae (VP.ve (bD ag.cl ag.e7 (cD (aa 0)))) (ae (VP.ve (bD ag.cl ag.eJ (cD (aa 0)))) ak))))) rfl)),?_⟩
 obtain ⟨rs,r,j,most,fr,dn,u1,u2,u3,rfl,rfl,h,hq⟩:=hG
 rw [ij]
 refine ⟨rfl,_,rfl,rfl,_,rfl,rfl,rs,j,r,rfl,h.o,h.at',rfl,yZ rfl,_,_,7,_,rfl,(by show 9 < 1000; decide),rfl,rfl,?_⟩
 exact hq
abbrev qN:List Str:=["machine","row","used","made"]
theorem iS:aC qN ["machine","row","used","made"] (ah gf):=L2.gj
theorem pD {f:Addr} {fd:FuncData} (D:Df K mg "follow_name" gf ["machine","row","used","made"] f fd) (M:DS K aw) (M1:S3 K cFrame) (e8:cy P w K mg base "follow_plain" ["machine","row","used","made"] 2 (nP K 3 (pv aw cFrame ay))):cy P w K mg base "follow_name" ["machine","row","used","made"] 3 (nP K 3 (md aw cFrame ay)):=by
 obtain ⟨dC,nt,e_,fg,fj,fm⟩:=e8
 refine D.gJ (Qn D.F iS rfl (by decide) fun bu A outer s H E M0 A_ hr us s0 q hG hl=>?_)
 obtain ⟨Rc,zq,NX,a0,CT⟩:=M0
 have yV:CT=0:=A_
 subst yV
 have nd:=iS.nd
 have hu:=bz.gx hr
 have qg:=v_ hu
 have ag:=M
 have bS:=M1
 refine ⟨_,(cH (KH qg (lN bS.cl bS.kO (KC (lN ag.cl ag.iQ (oY)) Vh)) (fun _=>(VP.vr (aH (aa 1) (VP.vr af)))) (fun _=>(aq 3)))
   (bZ (jb fm (hr.mono (by decide)) (by rfl) e_ fg fj (fun _=>(ae (aq 1) (ae (aq 2) (ae (aq 3) ak)))) rfl))),?_⟩
 obtain ⟨rs,r,j,most,e,dn,u2,x,v,rfl,i2,rfl,h,hx,hn,hq⟩:=hG
 have hi:=o5 r
 obtain ⟨y,l,er⟩:∃ y l,a8 r = .tup (.str y :: .str x :: l):=by
  cases r <;> first | exact hx.elim | (cases hx; exact ⟨_,_,rfl⟩)
 rw [ij,er]
 rw [er] at hi
 refine ⟨⟨_,GJ⟩,_,ai (j:=1) rfl,rfl,yZ rfl,_,_,GJ,(by show (e.ts).length < _; unfold Ev.ts; rw [cU]; omega),?_⟩
 refine NO (K6 (x:=x) (v:=v)) ?_
 refine ⟨GA (yZ rfl),?_⟩
 show jB (vH 1) _ [_,wo (some (.tup (.str y :: .str x :: l),false)),wo (some (u2,false)),wo (some (.int v,false))] _
 rw [kE hi,kE i2,kE rfl]
 refine ⟨rfl,rs,r,j,most,_,dn,_,_,_,rfl,rfl,h,?_⟩
 exact hq
abbrev xj:List Str:=["machine","row","used","made"]
theorem kP:aC xj ["machine","row","used","made"] (ah iP):=L2.gj
theorem uD {f:Addr} {fd:FuncData} (D:Df K mg "follow_do" iP ["machine","row","used","made"] f fd) (M:DS K aw) (de:cy P w K mg base "follow_name" ["machine","row","used","made"] 3 (nP K 3 (md aw cFrame ay))):cy P w K mg base "follow_do" ["machine","row","used","made"] 4 (nP K 3 (LI aw cFrame ay)):=by
 obtain ⟨cN,iT,dg,dh,di,dj⟩:=de
 refine D.gJ (Qn D.F kP rfl (by decide) fun bu A outer s H E M0 A_ hr us s0 q hG hl=>?_)
 obtain ⟨Rc,zq,NX,a0,CT⟩:=M0
 have yV:CT=0:=A_
 subst yV
 have nd:=kP.nd
 have ag:=M
 refine ⟨_,(bZ (wq (fun _=>(vV (aa 3) (VP.vr cQ)))
   (bZ (iD ag.cl ag.g9 (fun _=>(VP.ve (bp (ae (VP.ve aM) (ae (VP.ve aM) ak))))) rfl))
   (bZ (jb dj (hr.mono (by decide)) (by rfl) dg dh di (fun _=>(ae (aq 1) (ae (aq 2) (ae (aq 3) ak)))) rfl)))),?_⟩
 obtain ⟨rs,r,j,most,e,dn,u2,x,o,rfl,i2,rfl,h,hx,hn,hq⟩:=hG
 cases o with
 | none =>
   refine ⟨cf (by simp),rfl,yZ rfl,_,_,8,_,rfl,(by show 9 < 1000; decide),rfl,rfl,?_⟩
   exact hq
 | some v =>
   refine ⟨yZ rfl,rfl,rs,r,j,most,e,dn,u2,x,v,rfl,i2,rfl,h,hx,hn,?_⟩
   exact hq
abbrev qO:List Str:=["machine","row","used","made","call"]
theorem iU:aC qO ["machine","row","used","made"] (ah gg):=L2.gj
theorem pF {f:Addr} {fd:FuncData} (D:Df K mg "follow_give" gg ["machine","row","used","made"] f fd) (M:DS K aw) (M1:S3 K cFrame) (M2:QK K ay) (de:cy P w K mg base "follow_name" ["machine","row","used","made"] 3 (nP K 3 (md aw cFrame ay))):cy P w K mg base "follow_give" ["machine","row","used","made"] 4 (nP K 3 (uB aw cFrame ay)):=by
 obtain ⟨cN,iT,dg,dh,di,dj⟩:=de
 refine D.gJ (Qn D.F iU rfl (by decide) fun bu A outer s H E M0 A_ hr us s0 q hG hl=>?_)
 obtain ⟨Rc,zq,NX,a0,CT⟩:=M0
 have yV:CT=0:=A_
 subst yV
 have nd:=iU.nd
 have ag:=M
 have bS:=M1
 have aB:=M2
 refine ⟨_,(cH (KL (j:=4) nd rfl (Or.inl rfl) bS.cl bS.G_ (lN ag.cl ag.iQ (oY)))
  (bZ (wq (fun _=>(vV (aa 4) (VP.vr cQ)))
    (bZ (iD ag.cl ag.g9 (fun _=>(VP.ve (bp (ae (VP.ve aM) (ae (aq 3) ak))))) rfl))
    (cH (iD ag.cl ag.eJ (fun _=>(aq 4)) rfl)
    (bZ (jb dj (hr.mono (by decide)) (by rfl) dg dh di (fun _=>(ae (VP.ve (aH (VP.vr (bD aB.cl aB.eO (VP.vr (bD ag.cl ag.e7 (cD (aa 0)))))) (aa 4))) (ae (aq 2) (ae (aq 3) ak)))) rfl)))))),?_⟩
 obtain ⟨L,most,e,dn,pl,u1,u2,v,rfl,rfl,hq⟩:=hG
 refine ⟨[],_,_,0,.aT,(fun z=>nomatch z),GF,rfl,rfl,rfl,yZ rfl,?_⟩
 refine QG (GG (fr':=[])) ?_
 refine ⟨cf (by simp),rfl,V3 (GA (yZ rfl)),_,_,8,_,rfl,(by show 9 < 1000; decide),rfl,rfl,?_⟩
 exact hq
abbrev LM:List Str:=["machine","place","call","given","names","at","name"]
theorem xk:aC LM ["machine","place","call","given"] (ah uy):=L2.gj
theorem Hg {f:Addr} {fd:FuncData} (D:Df K mg "enter" uy ["machine","place","call","given"] f fd) (M:MgR mg) (M1:DS K aw) (M2:S3 K cFrame) (M3:QK K ay) (LN:FC P w K mg base "Frame" cFrame ["self","call","names"] 1 2 (Hb cFrame)):cy P w K mg base "enter" ["machine","place","call","given"] 3 (nP K 3 (He aw cFrame ay)):=by
 obtain ⟨Yw,Wl,LO,LP,LQ,LR⟩:=LN
 refine D.gJ (Qn D.F xk rfl (by decide) fun bu A outer s H E M0 A_ hr us s0 q hG hl=>?_)
 obtain ⟨Rc,zq,NX,a0,CT⟩:=M0
 have yV:CT=0:=A_
 subst yV
 have nd:=xk.nd
 have hu:=bz.gx hr
 have qg:=v_ hu
 have ag:=M1
 have bS:=M2
 have aB:=M3
 refine ⟨_,(cH (eh fun _=>(dR (i:=4) nd rfl (Or.inl rfl) (VP.vx tS) ki))
   (cH (eh fun _=>(gb DX rfl (Gh (by rfl) M.enumerate (VP.ve (aH (VP.vr (aH (VP.vr (bD aB.cl aB.eO (VP.vr (bD ag.cl ag.e7 (cD (aa 0)))))) (aa 1))) (VP.vr af)))) (sV (n:=2) rfl (d9 (bB (i:=5) nd rfl (Or.inl rfl) ki) (d9 (bB (i:=6) nd rfl (Or.inl rfl) ki) nI)))
     (ar (nN 4 qg (VP.ve (kb (vK (aa 5) (VP.vr (bq bc bf (by rfl) M.len rh (aE (aa 3) aQ)))) (aH (aa 3) (aa 5)) af)) (aa 6)))))
   (cH (KN (i:=2) (n:=4) (lN ag.cl ag.iQ (oY)) (Qm LO LR (fun t1 t2 q hq=>⟨t1,t2,rfl,hq⟩) (hr.mono (by decide)) (by rfl) LP LQ))
   (bZ (iD ag.cl ag.eJ (fun _=>(aq 1)) rfl))))),?_⟩
 obtain ⟨rs,j,f',ps,gs,most,rfl,rfl,dY,hps,hq⟩:=hG
 rw [ij]
 refine ⟨rfl,?_⟩
 refine ⟨rfl,_,rfl,rfl,_,rfl,_,o8 dY,_,ai (j:=2) rfl,?_⟩
 show mK (d_ (ps.map T.str)) _ _ _ [some (.pin a0 (mt aw cFrame (dc ay rs) most [] [] .aT .aT),false),some (.int (j:Nat),false),some (.aT,false),some (.lst (gs.map .int),false),some (.dk [] [],true),none,none]
 refine rW (f:=T.str) (fun i ρ=>∃ b5 b6,ρ=[some (.pin a0 (mt aw cFrame (dc ay rs) most [] [] .aT .aT),false),some (.int (j:Nat),false),some (.aT,false),some (.lst (gs.map .int),false),some (.dk (bo ps gs i).ks (bo ps gs i).ts,true),vwO b5,vwO b6]) ⟨none,none,rfl⟩ ?_ ?_
 · rintro i x ρ hx ⟨b5,b6,rfl⟩
   have es:bo ps gs (i+1)=(bo ps gs i).put x (gs.getD i 0):=by simp only [bo,hx]
   have hl:((bo ps gs i).ts).length < 16777216:=by
    have:=o_ ps gs i
    have:=(fG.mp hx).1
    unfold Ev.ts; rw [cU]; omega
   rw [es]
   refine ⟨rfl,rfl,jt (fun h=>?_) (fun h=>?_)⟩
   · have h':(i:Int) < ((gs.map T.int).length:Int):=h
     rw [cU] at h'
     have hg:i < gs.length:=by omega
     have ev:gs.getD i 0=gs[i]:=by rw [List.getD,qe hg]; rfl
     refine ⟨.int gs[i],ai (by rw [i4,qe hg]; rfl),hl,?_⟩
     rw [ev,← jR]
     exact ⟨some (.int (i:Int)),some (.str x),rfl⟩
   · have h':¬ ((i:Int) < ((gs.map T.int).length:Int)):=h
     rw [cU] at h'
     have ev:gs.getD i 0=0:=by rw [List.getD,IX (by omega)]; rfl
     refine ⟨hl,?_⟩
     rw [ev,← jR]
     exact ⟨some (.int (i:Int)),some (.str x),rfl⟩
 · rintro ρ ⟨b5,b6,rfl⟩
   refine ⟨by rw [ij]; rfl,?_⟩
   refine ⟨[],.aT,_,_,GF,by decide,(fun z=>nomatch z),rfl,rfl,rfl,?_,?_,?_⟩
   · exact eY (f:=T.int) (fun _=>by simp [bU]) _
   · intro e he
     simp only [cY,gK,or_false] at he
     rcases he with rfl | rfl | rfl | rfl | rfl | rfl | rfl
     · trivial
     · trivial
     · trivial
     · trivial
     · exact eY (f:=T.int) (fun _=>by simp [bU]) _
     · exact QF b5
     · exact QF b6
   · refine NO (GG (fr':=[bo ps gs ps.length])) ?_
     refine ⟨rfl,GA ?_,_,_,7,_,rfl,(by show 9 < 1000; decide),rfl,rfl,?_⟩
     · intro e he
       simp only [Mw,DV,cY,gK,or_false] at he
       rcases he with rfl | rfl | rfl | rfl | rfl | rfl | rfl
       · trivial
       · trivial
       · trivial
       · trivial
       · trivial
       · exact QF b5
       · exact QF b6
     · exact hq
end
end Run
namespace Run
open PySem L2 VT Gen K5 Lay
open AG (c_)
open Nx (GZ GY)
open Nm (jx Bd y0 wL)
open SY (Bf GN ud)
structure MgS (K:KFr) (mg:Str→Option Value):Prop where
 len:mg "len" = none
 tuple:mg "tuple" = none
 Rf:∃ a,mg "SILENT" = some (.ref a)∧∀ H,dG K H a [.str "else",.str "end",.str "skip"]
def u_:Rw→Prop
 | .skip=>True
 | .df _ ps=>ps.length≤100∧∀ x∈ps,c_ x=true∧x.length≤100
 | .put _ a=>t6 a
 | .kz _ a op b=>t6 a∧op∈reckon∧t6 b
 | .give a=>t6 a
 | _=>False
theorem Bo {r:Rw} (ok:u_ r):GY r:=by
 cases r with
 | skip=>exact ⟨show ("skip" : Str)≠"else" by decide +kernel,show ("skip" : Str)≠"end" by decide +kernel⟩
 | df f ps=>exact ⟨show ("def" : Str)≠"else" by decide +kernel,show ("def" : Str)≠"end" by decide +kernel⟩
 | put x a=>exact ⟨show ("put" : Str)≠"else" by decide +kernel,show ("put" : Str)≠"end" by decide +kernel⟩
 | kz x a op b=>exact ⟨show ("do" : Str)≠"else" by decide +kernel,show ("do" : Str)≠"end" by decide +kernel⟩
 | give a=>exact ⟨show ("give" : Str)≠"else" by decide +kernel,show ("give" : Str)≠"end" by decide +kernel⟩
 | _=>exact ok.elim
def sf (cM cF:Addr) (L:T) (most:Int) (j:Nat) (e:Ev) (dn:List T):Rw→S
 | .df _ ps=>ms cM cF L most [e] (dn ++ [Gy j e ps]) (.int ((j+1:Nat):Int)) .aT
 | .put x a=>ms cM cF L most [e.put x (ba e a)] (dn ++ [CH j (ba e a)]) (.int ((j+1:Nat):Int)) .aT
 | .kz x a op b=>match t7 op (ba e a) (ba e b) with
   | none=>ms cM cF L most [e] (dn ++ [CI j (ba e a) (ba e b) none]) (.int (j:Nat)) wJ
   | some v=>ms cM cF L most [e.put x v] (dn ++ [CI j (ba e a) (ba e b) (some v)]) (.int ((j+1:Nat):Int)) .aT
 | .give a=>ms cM cF L most [] (dn ++ [CH j (ba e a)]) (.int (j:Nat)) (jF (ba e a))
 | _=>ms cM cF L most [e] dn (.int (j:Nat)) .aT
def pG:Rw→Bool
 | .skip=>true
 | _=>false
def NY (cM cF cL:Addr) (us:List T) (s:S) (q:S→T→Prop):Prop:=∃ rs r j most e dn n,us=[a8 r]∧s=ms cM cF (dc cL rs) most [e] dn (.int (j:Nat)) .aT∧rs[j]?=some r∧rs.length≤100∧u_ r∧pG r=false∧gd e n∧n≤900∧dn.length≤1000∧q (sf cM cF (dc cL rs) most j e dn r) .aT
def sg (cM cF:Addr) (L:T) (most:Int) (j:Nat) (e:Ev) (dn:List T) (r:Rw):S :=
 if pG r=true then ms cM cF L most [e] dn (.int ((j+1:Nat):Int)) .aT else if most≤(dn.length:Int) then ms cM cF L most [e] dn (.int (j:Nat)) ig else sf cM cF L most j e dn r
def NZ (cM cF cL:Addr) (us:List T) (s:S) (q:S→T→Prop):Prop:=∃ rs r j most e dn n,us=[]∧s=ms cM cF (dc cL rs) most [e] dn (.int (j:Nat)) .aT∧rs[j]?=some r∧rs.length≤100∧u_ r∧gd e n∧n≤900∧dn.length≤1000∧q (sg cM cF (dc cL rs) most j e dn r) .aT
theorem xl {o:ju} (h:t6 o):wL (eM o)=false:=by
 cases o with
 | nm x =>
   have:=AG.qq (AG.sS h.1)
   show (Txt.startswith x "." && _)=false
   rw [this]; rfl
 | nu i=>rfl
theorem Bp {o:ju} (h:t6 o):y0 (eM o):=by
 cases o with
 | nm x=>exact .inl ⟨x,rfl,h.2⟩
 | nu i=>exact .inr ⟨i,rfl⟩
theorem Hh {a:ju} (h:t6 a):([eM a].filter fun t=>!wL t)=[eM a]:=by rw [YJ (by rw [xl h]; rfl)]; rfl
theorem Wm {a b:ju} (h:t6 a) (h':t6 b):([eM a,eM b].filter fun t=>!wL t)=[eM a,eM b]:=by rw [YJ (by rw [xl h]; rfl),Hh h']
theorem Hi {a:ju} (h:t6 a):∀ t∈[eM a],y0 t:=fun t ht=>by rw [kZ.mp ht]; exact Bp h
theorem Wn {a b:ju} (h:t6 a) (h':t6 b):∀ t∈[eM a,eM b],y0 t:=fun t ht=>by
 rcases cY.mp ht with z | z
 · rw [z]; exact Bp h
 · exact Hi h' t z
def nv:Rw→List ju
 | .df _ ps=>ps.map .nm
 | .put _ a=>[a]
 | .give a=>[a]
 | .kz _ a _ b=>[a,b]
 | _=>[]
def ib (e:Ev):Rw→T
 | .put _ a=>.int (ba e a)
 | .give a=>.int (ba e a)
 | .kz _ a op b=>oI (t7 op (ba e a) (ba e b))
 | _=>.aT
def gD (e:Ev) (r:Rw):List T:=(nv r).map fun o=>.int (ba e o)
theorem pI (e:Ev) (r:Rw):bU (ib e r)=true:=by cases r <;> first | rfl | exact QE _
theorem pJ (e:Ev) (r:Rw):eR (gD e r)=true:=eY (f:=fun o=>T.int (ba e o)) (fun _=>by simp [bU]) _
theorem Wo {e:Ev} {n:Nat} {r:Rw} (ok:u_ r) (sk:pG r=false) (he:gd e n):Wi r (gD e r) (ib e r):=by
 cases r with
 | df f ps=>rfl
 | put x a=>exact ⟨_,rfl,rfl⟩
 | give a=>exact ⟨_,rfl,rfl⟩
 | kz x a op b=>exact ⟨_,_,rfl,ok.2.1,he.look ok.1,he.look ok.2.2,rfl⟩
 | skip=>cases sk
 | _=>exact ok.elim
theorem Rg {r:Rw} (ok:u_ r):∀ o∈nv r,t6 o:=by
 cases r with
 | df f ps =>
   intro o ho
   obtain ⟨x,hx,rfl⟩:=vd.mp ho
   exact ok.2 x hx
 | put x a=>intro o ho; rw [kZ.mp ho]; exact ok
 | give a=>intro o ho; rw [kZ.mp ho]; exact ok
 | kz x a op b =>
   intro o ho
   simp only [nv,cY,gK,or_false] at ho
   rcases ho with rfl | rfl
   · exact ok.1
   · exact ok.2.2
 | _=>intro o ho; cases ho
theorem LS {r:Rw} (ok:u_ r):(nv r).length≤100:=by
 cases r with
 | df f ps=>rw [nv,cU]; exact ok.1
 | _=>simp [nv]
abbrev Rh (cM cF cL:Addr) (rs:List Rw) (most:Int) (e:Ev) (dn:List T) (j:Nat) (r:Rw):S:=ms cM cF (dc cL rs) most [e] (dn ++ [.tup [.int (j:Int),.tup (gD e r),ib e r]]) (.int (j:Nat)) .aT
abbrev Ri (a:Addr) (s:S) (e:Ev) (r:Rw) (x:Option (T×Bool)):En:=[some (.pin a s.t,false),some (a8 r,false),x,some (.tup (gD e r),false),some (ib e r,false)]
def cutD (cM cF cL a0:Addr):FM:=fun d ρ s=>∃ rs r j most e dn n P,ρ=[some (.pin a0 s.t,false),some (a8 r,false),some (P,false),none,none]∧s=ms cM cF (dc cL rs) most [e] dn (.int (j:Nat)) .aT∧(P = .tup ((nv r).map eM)∨P = .lst ((nv r).map eM))∧rs[j]?=some r∧rs.length≤100∧u_ r∧pG r=false∧gd e n∧n≤900∧dn.length≤1000∧∀ ρ',d.nx ρ' (sf cM cF (dc cL rs) most j e dn r)
theorem b_.up {P:Program} {w:World} {K:KFr} {mg:Str→Option Value} {base:Heap} {k k':Nat} {f:Addr} {fd:FuncData} {ps:List Str} {sp:Sp} (h:b_ P w K mg base dI k f fd ps sp) (hk:k≤k'):b_ P w K mg base dI k' f fd ps sp :=
 ⟨h.len,fun A outer s H args us vs Q E hr e0 hb r II=>h.run A outer s H args us vs Q E (hr.mono hk) e0 hb r II⟩
structure Fos (w:World) (K:KFr) (mg:Str→Option Value):Prop where
 ex:∃ (a:Addr) (f1 f2 f3 f4 f5 f6 f7 f8 f9:Addr),mg "FOLLOWERS" = some (.ref a)∧mg "follow_plain" = some (.ref f1)∧mg "follow_give" = some (.ref f2)∧mg "follow_name" = some (.ref f3)∧mg "follow_do" = some (.ref f4) ∧
  oU w K a [("def",.ob f1),("give",.ob f2),("put",.ob f3),("do",.ob f4),("new",.ob f5),("get",.ob f3),("set",.ob f6),("call",.ob f7),("fail",.ob f8),("if",.ob f9),("while",.ob f9)]
section
variable {P:Program} {w:World} {K:KFr} {mg:Str→Option Value} {base:Heap} {ay cFrame aw:Addr}
abbrev pK:List Str:=["machine","row","parts","used","made"]
theorem mY:aC pK ["machine","row"] (ah jW):=L2.gj
theorem pL:(pK ++ (["part"]:List Str)).Nodup:=by decide +kernel
theorem xm {f:Addr} {fd:FuncData} (D:Df K mg "done_row" jW ["machine","row"] f fd) (M:MgS K mg) (M1:DS K aw) (M2:Fos w K mg) (zt:cy P w K mg base "operands" ["row"] 3 (cT K 1 Bf)) (zu:cy P w K mg base "value_of" ["machine","part"] 2 (cT K 2 (Wh aw cFrame))) (CU:cy P w K mg base "made_by" ["machine","row","used"] 4 (cT K 3 Bn)) (e8:cy P w K mg base "follow_plain" ["machine","row","used","made"] 2 (nP K 3 (pv aw cFrame ay))) (de:cy P w K mg base "follow_name" ["machine","row","used","made"] 3 (nP K 3 (md aw cFrame ay))) (xn:cy P w K mg base "follow_do" ["machine","row","used","made"] 4 (nP K 3 (LI aw cFrame ay))) (qP:cy P w K mg base "follow_give" ["machine","row","used","made"] 4 (nP K 3 (uB aw cFrame ay))):cy P w K mg base "done_row" ["machine","row"] 5 (nP K 1 (NY aw cFrame ay)):=by
 obtain ⟨Rj,N0,zv,zw,zx,zy⟩:=zt
 obtain ⟨Rk,N1,zz,zA,zB,zC⟩:=zu
 obtain ⟨S4,Rl,CV,CW,CY,CZ⟩:=CU
 obtain ⟨dC,nt,e_,fg,fj,fm⟩:=e8
 obtain ⟨cN,iT,dg,dh,di,dj⟩:=de
 obtain ⟨iV,LU,xo,xp,xq,xr⟩:=xn
 obtain ⟨gh,Hj,qQ,qR,qS,qT⟩:=qP
 refine D.gJ (Qn D.F mY rfl (by decide) fun bu A outer s H E M0 A_ hr us s0 q hG hl=>?_)
 obtain ⟨Rc,zq,NX,a0,CT⟩:=M0
 have yV:CT=0:=A_
 subst yV
 have nd:=mY.nd
 have hu:=bz.gx hr
 have ag:=M1
 obtain ⟨aF,f1,f2,f3,f4,f5,f6,f7,f8,f9,xt,e1,e2,e3,e4,uE⟩:=M2.ex
 cases e_.symm.trans e1
 cases qQ.symm.trans e2
 cases dg.symm.trans e3
 cases xo.symm.trans e4
 have xu:∀ f' G,((f'=dC∧G=pv aw cFrame ay)∨(f'=gh∧G=uB aw cFrame ay)∨(f'=cN∧G=md aw cFrame ay)∨(f'=iV∧G=LI aw cFrame ay))→PySem.W.keepIn K (.ref f')=true∧∃ fd ps,Binds K fd ps []∧b_ P w K mg base dI 4 f' fd ps (nP K 3 G):=by
  rintro f' G (⟨rfl,rfl⟩ | ⟨rfl,rfl⟩ | ⟨rfl,rfl⟩ | ⟨rfl,rfl⟩)
  · exact ⟨fg,_,_,fj,b_.up fm (by decide)⟩
  · exact ⟨qR,_,_,qS,b_.up qT (by decide)⟩
  · exact ⟨dh,_,_,di,b_.up dj (by decide)⟩
  · exact ⟨xp,_,_,xq,b_.up xr (by decide)⟩
 refine ⟨_,(cH (eh fun _=>(bh (i:=2) nd rfl (Or.inl rfl) (VP.vx (kb (cp hu (VP.vr (aH (aa 1) (VP.vr af))) (VP.vr aM)) (aH (aa 1) (VP.vr af)) (aV zy (hr.mono (by decide)) (by rfl) zv zw zx (ae (aq 1) ak)))) ki))
   (FU.weak (u:=(cutD aw cFrame ay a0)) (cH (eh fun _=>(bh (i:=3) nd rfl (Or.inl rfl) (VP.vx (cK fU iy (by rfl) M.tuple fP (aE (VP.vr (fO (ts:=["part"]) rfl (by rfl) (eU (aq 2)) (fun _ _ _ _ _ _=>(bB (i:=5) pL rfl (Or.inl rfl) ki)) (fun _ _ _ _ _ _=>eI) (fun _ _ _ _ _ _=>(VP.ve (aV zC (hr.mono (by decide)) (by rfl) zz zA zB (ae (aq 0) (ae (aq 5) ak))))))) aQ))) ki))
   (cH (eh fun _=>(bh (i:=4) nd rfl (Or.inl rfl) (VP.vx (aV CZ (hr.mono (by decide)) (by rfl) CV CW CY (ae (aq 0) (ae (aq 1) (ae (aq 3) ak))))) ki))
   (cH (eh fun _=>(bE (VW.vc (sT (vW (VP.vr (bD ag.cl ag.uA (cD (aa 0)))) (VP.vr cQ)) (nG (cp hu (VP.vr (aH (VP.vr (bD ag.cl ag.uA (cD (aa 0)))) (VP.vr af))) (VP.vr (bq bc bf (by rfl) M.len rh (aE (VP.vr (bD ag.cl ag.iR (cD (aa 0)))) aQ)))))))
     (ar (bh (i:=4) nd rfl (Or.inl rfl) (VP.vx (aH (VP.vr (bD ag.cl ag.uA (cD (aa 0)))) (VP.vr af))) ki))
     aO))
   (cH (Ct (lN ag.cl ag.iR (oY)) (fun _=>(VP.ve (bp (ae (VP.ve (bD ag.cl ag.eJ (cD (aa 0)))) (ae (aq 3) (ae (aq 4) ak)))))))
   (bZ (F5 xu (hr.mono (by decide)) (fun _=>VP.ve (G0 (by rfl) xt uE (VP.vr (aH (aa 1) (VP.vr af))))) (fun _=>(ae (aq 1) (ae (aq 3) (ae (aq 4) ak)))) rfl)))))) ?w1)),?main⟩
 case w1 =>
  rintro d ρ s ⟨rs,r,j,most,e,dn,n,P,rfl,rfl,hP,dY,hn,ok,sk,he,eK,Hk,fin⟩
  have oO:=Rg ok
  have oL:=LS ok
  have rk:=Wo ok sk he
  have KI:bU (.tup [.int (j:Int),.tup (gD e r),ib e r])=true:=by simp [bU,eR,pJ,pI]
  have Rm:V2 r=false→Yv rs j r:=fun h=>by
   exact ⟨dY,Bo ok,hn⟩
  have fol:∀ x2:Option (T×Bool),fT (V' [("def",.ob dC),("give",.ob gh),("put",.ob cN),("do",.ob iV),("new",.ob f5),("get",.ob cN),("set",.ob f6),("call",.ob f7),("fail",.ob f8),("if",.ob f9),("while",.ob f9)] (fT (f2 (EF 1) (fT (fC (.int 0))) X7))) (Ri a0 (Rh aw cFrame ay rs most e dn j r) e r x2) fun t=>∃ f G,t = .ob f∧((f=dC∧G=pv aw cFrame ay)∨(f=gh∧G=uB aw cFrame ay)∨(f=cN∧G=md aw cFrame ay)∨(f=iV∧G=LI aw cFrame ay))∧(jB (vH 1) (jB (vH 3) (jB (vH 4) yD))) (Ri a0 (Rh aw cFrame ay rs most e dn j r) e r x2) fun us=>us.length=3∧G us (Rh aw cFrame ay rs most e dn j r) fun s' _=>d.nx (nk ⟨Rc,zq,NX,a0,0⟩ (Ri a0 (Rh aw cFrame ay rs most e dn j r) e r x2) s') s':=fun x2=>by
   have hel:e.is.length≤1000:=by have:=he.n; omega
   cases r with
   | df f' ps =>
     refine ⟨_,ai (j:=0) rfl,_,rfl,_,_,rfl,.inl ⟨rfl,rfl⟩,rfl,rs,_,j,most,[e],_,_,_,_,rfl,rfl,Rm rfl,?_⟩
     have ed:T.tup [.int (j:Int),.tup (gD e (.df f' ps)),ib e (.df f' ps)]=Gy j e ps:=by unfold Gy gD nv; rw [Ap]; rfl
     rw [ed]
     exact fin _
   | put x a =>
     refine ⟨_,ai (j:=0) rfl,_,rfl,_,_,rfl,.inr (.inr (.inl ⟨rfl,rfl⟩)),rfl,rs,_,j,most,e,_,_,x,ba e a,rfl,rfl,rfl,Rm rfl,rfl,hel,?_⟩
     exact fin _
   | give a =>
     refine ⟨_,ai (j:=0) rfl,_,rfl,_,_,rfl,.inr (.inl ⟨rfl,rfl⟩),rfl,_,most,e,_,_,_,_,ba e a,rfl,rfl,?_⟩
     exact fin _
   | kz x a op b =>
     refine ⟨_,ai (j:=0) rfl,_,rfl,_,_,rfl,.inr (.inr (.inr ⟨rfl,rfl⟩)),rfl,rs,_,j,most,e,_,_,x,t7 op (ba e a) (ba e b),rfl,rfl,rfl,Rm rfl,rfl,hel,?_⟩
     have f2:=fin
     simp only [sf] at f2
     dsimp only [ib]
     generalize t7 op (ba e a) (ba e b)=o at f2 ⊢
     cases o with
     | none=>exact f2 _
     | some v=>exact f2 _
   | skip=>cases sk
   | _=>exact ok.elim
  have Wq:∀ t,∀ x∈Ri a0 (Rh aw cFrame ay rs most e dn j r) e r (wo (some (t,false))),eX x:=fun t x hx=>by
   simp only [Ri,cY,gK,or_false] at hx
   rcases hx with rfl | rfl | rfl | rfl | rfl
   · trivial
   · exact QF (some (a8 r))
   · show eX (if bU t=true then some (t,false) else none)
     split
     · exact QF (some t)
     · trivial
   · trivial
   · exact QF (some (ib e r))
  rw [ij]
  rcases hP with rfl | rfl
  · refine ⟨rfl,by rw [cU]; exact cf (by omega),?_⟩
    refine dX (f:=eM) (u:=fun o=>.int (ba e o)) (fun o ho k hk=>?_) ?_
    · exact ⟨rfl,a0,dc ay rs,most,e,dn,.int (j:Nat),.aT,o,n,rfl,oO o ho,he,by omega,hk⟩
    refine ⟨by rw [ij]; rfl,rfl,_,r,gD e r,ib e r,rfl,rk,by rw [ij]; rfl,?_⟩
    refine ⟨rfl,_,rfl,by rw [ij]; rfl,?_⟩
    refine ⟨dn.map .lf,ua,by rw [cU]; omega,?_⟩
    refine ⟨rfl,_,rfl,cf (by simp),KI,yZ rfl,?_⟩
    refine GB (ρ':=Ri a0 (Rh aw cFrame ay rs most e dn j r) e r (wo (some (.tup ((nv r).map eM),false)))) GH ?_ ?_
    · show [_,wo (some (a8 r,false)),wo (some (_,false)),wo (some (.tup (gD e r),false)),wo (some (ib e r,false))]=_
      rw [kE (o5 r),kE (t:=.tup (gD e r)) (pJ e r),kE (pI e r)]
      rfl
    · exact ⟨Wq _,fol _⟩
  · refine ⟨rfl,by rw [cU]; exact cf (by omega),?_⟩
    refine dX (f:=eM) (u:=fun o=>.int (ba e o)) (fun o ho k hk=>?_) ?_
    · exact ⟨rfl,a0,dc ay rs,most,e,dn,.int (j:Nat),.aT,o,n,rfl,oO o ho,he,by omega,hk⟩
    refine ⟨by rw [ij]; rfl,rfl,_,r,gD e r,ib e r,rfl,rk,by rw [ij]; rfl,?_⟩
    refine ⟨rfl,_,rfl,by rw [ij]; rfl,?_⟩
    refine ⟨dn.map .lf,ua,by rw [cU]; omega,?_⟩
    refine ⟨rfl,_,rfl,cf (by simp),KI,yZ rfl,?_⟩
    refine GB (ρ':=Ri a0 (Rh aw cFrame ay rs most e dn j r) e r (wo (some (.lst ((nv r).map eM),false)))) GH ?_ ?_
    · show [_,wo (some (a8 r,false)),wo (some (_,false)),wo (some (.tup (gD e r),false)),wo (some (ib e r,false))]=_
      rw [kE (o5 r),kE (t:=.tup (gD e r)) (pJ e r),kE (pI e r)]
      rfl
    · exact ⟨Wq _,fol _⟩
 case main =>
  obtain ⟨rs,r,j,most,e,dn,n,rfl,rfl,dY,hn,ok,sk,he,eK,Hk,hq⟩:=hG
  cases r with
  | df f' ps=>exact ⟨_,ai (j:=0) rfl,_,ai (j:=2) rfl,rfl,rs,_,j,most,e,dn,n,_,rfl,rfl,.inl (by rw [nv,Ap]; rfl),dY,hn,ok,sk,he,eK,Hk,fun _=>hq⟩
  | put x a=>exact ⟨_,ai (j:=0) rfl,rfl,_,rfl,Hi ok,rfl,rs,_,j,most,e,dn,n,_,rfl,rfl,.inr (congrArg T.lst (Hh ok)),dY,hn,ok,sk,he,eK,Hk,fun _=>hq⟩
  | give a=>exact ⟨_,ai (j:=0) rfl,rfl,_,rfl,Hi ok,rfl,rs,_,j,most,e,dn,n,_,rfl,rfl,.inr (congrArg T.lst (Hh ok)),dY,hn,ok,sk,he,eK,Hk,fun _=>hq⟩
  | kz x a op b=>exact ⟨_,ai (j:=0) rfl,rfl,_,rfl,Wn ok.1 ok.2.2,rfl,rs,_,j,most,e,dn,n,_,rfl,rfl,.inr (congrArg T.lst (Wm ok.1 ok.2.2)),dY,hn,ok,sk,he,eK,Hk,fun _=>hq⟩
  | skip=>cases sk
  | _=>exact ok.elim
abbrev Hl:List Str:=["machine","row"]
theorem Bq:aC Hl ["machine"] (ah uz):=L2.gj
theorem LV {f:Addr} {fd:FuncData} (D:Df K mg "step" uz ["machine"] f fd) (M:MgS K mg) (M1:DS K aw) (M2:QK K ay) (g_:cy P w K mg base "row_behind" ["layout","place"] 1 (cT K 2 (GZ ay))) (zD:cy P w K mg base "done_row" ["machine","row"] 5 (nP K 1 (NY aw cFrame ay))):cy P w K mg base "step" ["machine"] 6 (nP K 0 (NZ aw cFrame ay)):=by
 obtain ⟨uC,qM,hJ,hU,hW,hX⟩:=g_
 obtain ⟨Rn,N2,zE,zF,zG,zH⟩:=zD
 refine D.gJ (Qn D.F Bq rfl (by decide) fun bu A outer s H E M0 A_ hr us s0 q hG hl=>?_)
 obtain ⟨Rc,zq,NX,a0,CT⟩:=M0
 have yV:CT=0:=A_
 subst yV
 have nd:=Bq.nd
 have ag:=M1
 have aB:=M2
 obtain ⟨aS,mS,hS⟩:=M.Rf
 have Hm:∀ {H':Hp} {pos},VP (eG dI P w K mg base Hl "step" (ah uz) f bu A outer s H E).nZ ⟨H',[],NX⟩ (.Name "SILENT" pos) (fC (.tup [.str "else",.str "end",.str "skip"])):=fun {H' pos}=>gP (by rfl) mS (v:=.ref aS) rfl fun H A=>bX (hS H) (az.cons cP (az.cons cP (az.cons cP az.nil)))
 refine ⟨_,(cH (eh fun _=>(bh (i:=1) nd rfl (Or.inl rfl) (VP.vx (aH (VP.vr (bD aB.cl aB.eO (VP.vr (bD ag.cl ag.e7 (cD (aa 0)))))) (VP.vr (bD ag.cl ag.eJ (cD (aa 0)))))) ki))
   (bZ (wq (fun _=>(rN (VP.vr (aH (aa 1) (VP.vr af))) (VP.vr Hm)))
     (bZ (iD ag.cl ag.eJ (fun _=>(VP.ve (aV hX (hr.mono (by decide)) (by rfl) hJ hU hW (ae (VP.ve (bD ag.cl ag.e7 (cD (aa 0)))) (ae (VP.ve (bD ag.cl ag.eJ (cD (aa 0)))) ak))))) rfl))
     (bZ (wq (fun _=>(UD (VP.vr (bq bc bf (by rfl) M.len rh (aE (VP.vr (bD ag.cl ag.iR (cD (aa 0)))) aQ))) (VP.vr (bD ag.cl ag.G' (cD (aa 0))))))
       (bZ (iD ag.cl ag.g9 (fun _=>(VP.ve (bp (ae (VP.ve aM) (ae (VP.ve af) ak))))) rfl))
       (bZ (jb zH (hr.mono (by decide)) (by rfl) zE zF zG (fun _=>(ae (aq 1) ak)) rfl))))))),?_⟩
 obtain ⟨rs,r,j,most,e,dn,n,rfl,rfl,dY,hn,ok,he,eK,Hk,hq⟩:=hG
 rw [ij]
 refine ⟨rfl,_,rfl,rfl,_,rfl,rfl,_,rfl,_,o8 dY,by rw [ij]; rfl,?_⟩
 have acI:pG r=false→most≤(dn.length:Int)→q (ms aw cFrame (dc ay rs) most [e] dn (.int (j:Nat)) ig) .aT:=fun h1 h2=>by
  unfold sg at hq
  rw [if_neg (by rw [h1]; exact eC),if_pos h2] at hq
  exact hq
 have Wr:pG r=false→¬ most≤(dn.length:Int)→q (sf aw cFrame (dc ay rs) most j e dn r) .aT:=fun h1 h2=>by
  unfold sg at hq
  rw [if_neg (by rw [h1]; exact eC),if_neg h2] at hq
  exact hq
 cases r with
 | skip =>
   refine ⟨_,ai (j:=0) rfl,rfl,rfl,rfl,_,rfl,rfl,_,rfl,rfl,rs,j,.skip,rfl,Bo ok,dY,rfl,yZ rfl,_,_,7,_,rfl,(by show 9 < 1000; decide),rfl,rfl,?_⟩
   exact hq
 | new _=>exact ok.elim
 | get _ _ _=>exact ok.elim
 | set _ _ _=>exact ok.elim
 | call _ _ _=>exact ok.elim
 | fail _=>exact ok.elim
 | Qy _=>exact ok.elim
 | VN=>exact ok.elim
 | Qz _=>exact ok.elim
 | fin=>exact ok.elim
 | _ =>
   refine ⟨_,ai (j:=0) rfl,rfl,rfl,rfl,_,rfl,rfl,_,rfl,jt (fun h=>?_) (fun h=>?_)⟩
   · have h':most≤(dn.length:Int):=h
     refine ⟨cf (by simp),rfl,yZ rfl,_,_,8,_,rfl,(by show 9 < 1000; decide),rfl,rfl,?_⟩
     exact acI rfl h'
   · have h':¬ most≤(dn.length:Int):=h
     exact ⟨yZ rfl,rfl,rs,_,j,most,e,dn,n,rfl,rfl,dY,hn,ok,rfl,he,eK,Hk,Wr rfl h'⟩
end
theorem Ws {α:Type} {k:Key} {v:α}:∀ (ks:List Key) (is:List α),ks.length=is.length→kq ks k=true→bY ks (List.zipWith (fun a t=>if a=k then v else t) ks is) k=some v
 | [],is,_,h=>by simp [kq] at h
 | a :: ks,[],l,_=>by simp at l
 | a :: ks,i :: is,l,h=>by
   simp only [XB,bY]
   by_cases e:a=k
   · rw [if_pos e,if_pos e]
   · rw [if_neg e]
     refine Ws ks is (by simpa using l) ?_
     simp only [kq,IF,decide_eq_false e,Bool.false_or] at h
     exact h
theorem N3 {α:Type} {k k':Key} {v:α} (hk:k'≠k):∀ (ks:List Key) (is:List α),bY ks (List.zipWith (fun a t=>if a=k then v else t) ks is) k'=bY ks is k'
 | [],is=>by cases is <;> rfl
 | a :: ks,[]=>rfl
 | a :: ks,i :: is=>by
   simp only [XB,bY]
   by_cases e:a=k'
   · rw [if_pos e,if_pos e,if_neg (fun z=>hk (e.symm.trans z))]
   · rw [if_neg e,if_neg e]; exact N3 hk ks is
theorem Wt {α:Type} {k:Key} {v:α}:∀ (ks:List Key) (is:List α),ks.length=is.length→kq ks k=false→bY (ks ++ [k]) (is ++ [v]) k=some v
 | [],[],_,_=>by simp [bY]
 | [],i :: is,l,_=>by simp at l
 | a :: ks,[],l,_=>by simp at l
 | a :: ks,i :: is,l,h=>by
   simp only [kq,IF,Bool.or_eq_false_iff,decide_eq_false_iff_not] at h
   simp only [MC,bY,if_neg h.1]
   exact Wt ks is (by simpa using l) h.2
theorem N4 {α:Type} {k k':Key} {v:α} (hk:k'≠k):∀ (ks:List Key) (is:List α),ks.length=is.length→bY (ks ++ [k]) (is ++ [v]) k'=bY ks is k'
 | [],[],_=>by simp only [SE,bY]; rw [if_neg (fun z=>hk z.symm)]
 | [],i :: is,l=>by simp at l
 | a :: ks,[],l=>by simp at l
 | a :: ks,i :: is,l=>by
   simp only [MC,bY]
   rw [N4 hk ks is (by simpa using l)]
theorem Wu {α:Type} {ks:List Key} {is:List α} {k:Key} {v:α} (l:ks.length=is.length):bY (eE ks k) (cc ks is k v) k=some v:=by
 unfold eE cc
 cases h:kq ks k with
 | true=>rw [if_pos rfl,if_pos rfl]; exact Ws ks is l h
 | false=>rw [if_neg eC,if_neg eC]; exact Wt ks is l h
theorem putN {α:Type} {ks:List Key} {is:List α} {k k':Key} {v:α} (l:ks.length=is.length) (hk:k'≠k):bY (eE ks k) (cc ks is k v) k'=bY ks is k':=by
 unfold eE cc
 cases h:kq ks k with
 | true=>rw [if_pos rfl,if_pos rfl]; exact N3 hk ks is
 | false=>rw [if_neg eC,if_neg eC]; exact N4 hk ks is l
theorem putL {α:Type} {ks:List Key} {is:List α} {k:Key} {v:α} (l:ks.length=is.length):(eE ks k).length=(cc ks is k v).length:=by
 unfold eE cc
 cases h:kq ks k with
 | true=>rw [if_pos rfl,if_pos rfl,XF]; omega
 | false=>rw [if_neg eC,if_neg eC]; simp [l]
def Ev.L (e:Ev):Prop:=e.ks.length=e.is.length
theorem Ev.L.put {e:Ev} (h:e.L) (x:Str) (v:Int):(e.put x v).L:=putL h
theorem Ev.L.get {e:Ev} (h:e.L) (x:Str) (v:Int):(e.put x v).get x=v:=by unfold Ev.get Ev.put; rw [Wu h]; rfl
theorem Ev.L.acJ {e:Ev} (h:e.L) (x:Str) (v:Int):bY (e.put x v).ks (e.put x v).ts (.inr x)=some (.int v):=by
 unfold Ev.ts
 rw [o9]
 unfold Ev.put
 rw [Wu h]; rfl
theorem Ev.L.ne {e:Ev} (h:e.L) {x y:Str} (hy:y≠x) (v:Int):(e.put x v).get y=e.get y:=by
 unfold Ev.get Ev.put
 rw [putN h (fun z=>hy (Sum.inr.inj z))]
theorem zI (ps:List Str) (gs:List Int):∀ k,(bo ps gs k).L
 | 0=>rfl
 | k+1=>by
   have ih:=zI ps gs k
   unfold bo
   split
   · exact ih.put _ _
   · exact ih
theorem yU {α:Type}:∀ {l:List α} (nd:l.Nodup) {i j:Nat} (hi:i < l.length) (hj:j < l.length),l[i]=l[j]→i=j
 | [],_,i,j,hi,_,_=>absurd hi (Nat.not_lt_zero _)
 | a :: l,nd,0,0,_,_,_=>rfl
 | a :: l,nd,0,j+1,_,hj,e=>absurd (by rw [show a=l[j]'(by simpa using hj) from e]; exact Oj _) (jI.mp nd).1
 | a :: l,nd,i+1,0,hi,_,e=>absurd (by rw [show a=l[i]'(by simpa using hi) from e.symm]; exact Oj _) (jI.mp nd).1
 | a :: l,nd,i+1,j+1,hi,hj,e=>by rw [yU (jI.mp nd).2 (by simpa using hi) (by simpa using hj) e]
theorem xv {ps:List Str} (nd:ps.Nodup) (gs:List Int) {i:Nat} {x:Str} (hx:ps[i]?=some x):∀ k,i < k→(bo ps gs k).get x=gs.getD i 0
 | 0,h=>absurd h (Nat.not_lt_zero _)
 | k+1,h=>by
   have hL:=zI ps gs k
   simp only [bo]
   by_cases e:i=k
   · subst e
     rw [hx]
     exact hL.get x _
   · have ih:=xv nd gs hx k (by omega)
     cases hk:ps[k]? with
     | none=>exact ih
     | some y =>
       dsimp only
       rw [hL.ne (fun z=>?_),ih]
       subst z
       obtain ⟨l1,e1⟩:=fG.mp hx
       obtain ⟨l2,e2⟩:=fG.mp hk
       exact e (yU nd l1 l2 (e1.trans e2.symm))
theorem Hn {ps:List Str} (nd:ps.Nodup) (gs:List Int) (h4:ps.length≤4):(ps.map fun x=>T.int ((bo ps gs ps.length).get x))=((gs ++ [0,0,0,0]).take ps.length).map T.int:=by
 refine SD fun i=>?_
 rw [i4,i4]
 by_cases hi:i < ps.length
 · rw [qe hi,List.getElem?_take_of_lt hi]
   show some (T.int _)=_
   rw [xv nd gs (qe hi) ps.length hi,List.getD]
   by_cases hg:i < gs.length
   · rw [qh hg,qe hg]; rfl
   · rw [uX (by omega),IX (by omega)]
     have:i - gs.length < 4:=by omega
     have h':i - gs.length=0∨i - gs.length=1∨i - gs.length=2∨i - gs.length=3:=by omega
     rcases h' with h' | h' | h' | h' <;> rw [h'] <;> rfl
 · rw [IX (by omega),IX (by rw [Oh]; omega)]; rfl
def pM (t:T):Prop:=∃ (p:Int) (us:List Int) (m:Option Int),us.length≤100∧t = .tup [.int p,.tup (us.map .int),oI m]
def xw (t:T):Prop:=(∃ v,t=jF v)∨t=wJ∨t=ig
theorem me (most:Nat):∀ (rs:List Rw) (p:Nat) (e:Ev) (dn:List T),(∀ f ps,Rw.df f ps∈rs→ps.length≤100)→(∀ t∈dn,pM t)→(∀ t∈(bK most rs p e dn).1,pM t)∧xw (bK most rs p e dn).2
 | [],p,e,dn,_,h=>⟨h,.inl ⟨0,rfl⟩⟩
 | r :: rs,p,e,dn,hr,h=>by
   have dY:∀ f ps,Rw.df f ps∈rs→ps.length≤100:=fun f ps m=>hr f ps (eB _ m)
   have add:∀ t,pM t→∀ x∈dn ++ [t],pM x:=fun t ht x hx=>by
    rcases cA.mp hx with z | z
    · exact h x z
    · rw [kZ.mp z]; exact ht
   have o1:∀ v,pM (CH p v):=fun v=>⟨p,[v],some v,by simp,rfl⟩
   have o2:∀ x y o,pM (CI p x y o):=fun x y o=>⟨p,[x,y],o,by simp,rfl⟩
   cases r with
   | skip=>exact me most rs (p+1) e dn dY h
   | df f ps =>
     simp only [bK]
     split
     · exact ⟨h,.inr (.inr rfl)⟩
     · exact me most rs _ _ _ dY (add _ ⟨p,ps.map e.get,none,by rw [cU]; exact hr f ps c6,by rw [Ap]; rfl⟩)
   | put x a =>
     simp only [bK]
     split
     · exact ⟨h,.inr (.inr rfl)⟩
     · exact me most rs _ _ _ dY (add _ (o1 _))
   | kz x a op b =>
     simp only [bK]
     split
     · exact ⟨h,.inr (.inr rfl)⟩
     · split
       · exact ⟨add _ (o2 _ _ _),.inr (.inl rfl)⟩
       · exact me most rs _ _ _ dY (add _ (o2 _ _ _))
   | give a =>
     simp only [bK]
     split
     · exact ⟨h,.inr (.inr rfl)⟩
     · exact ⟨add _ (o1 _),.inl ⟨_,rfl⟩⟩
   | _=>exact ⟨h,.inl ⟨0,rfl⟩⟩
theorem uF (most:Nat):∀ (rs:List Rw) (p:Nat) (e:Ev) (dn:List T),(bK most rs p e dn).1.length≤dn.length+rs.length
 | [],p,e,dn=>dm _
 | r :: rs,p,e,dn=>by
   have go:∀ (p:Nat) (e:Ev) (t:T),(bK most rs p e (dn ++ [t])).1.length≤dn.length+(r :: rs).length:=fun p e t=>by
    have:=uF most rs p e (dn ++ [t])
    simp only [uY,vb,Om] at this ⊢
    omega
   have st:dn.length≤dn.length+(r :: rs).length:=by omega
   have on:∀ t:T,(dn ++ [t]).length≤dn.length+(r :: rs).length:=fun t=>by simp only [uY,vb,Om]; omega
   cases r with
   | skip =>
     have:=uF most rs (p+1) e dn
     simp only [vb]
     exact k0 this (by omega)
   | df f ps=>simp only [bK]; split; exact st; exact go _ _ _
   | put x a=>simp only [bK]; split; exact st; exact go _ _ _
   | kz x a op b =>
     simp only [bK]
     split
     · exact st
     · split
       · exact on _
       · exact go _ _ _
   | give a=>simp only [bK]; split; exact st; exact on _
   | _=>exact st
theorem xx {t:T} (h:pM t):plainT t=true∧dep t≤3:=by
 obtain ⟨p,us,m,_,rfl⟩:=h
 have h1:bQ (us.map T.int)=true:=dW (f:=T.int) (fun _=>by simp [plainT]) us
 have h2:fY (us.map T.int)≤0:=gA (f:=T.int) (n:=0) (fun _=>by simp [dep]) us
 cases m <;> exact ⟨by simp [plainT,bQ,oI,h1],by simp only [dep,fY,oI]; omega⟩
theorem Ro {t:T} (h:pM t):bU t=true:=by
 obtain ⟨p,us,m,_,rfl⟩:=h
 have h1:eR (us.map T.int)=true:=eY (f:=T.int) (fun _=>by simp [bU]) us
 cases m <;> simp [bU,eR,oI,h1]
theorem LW {t:T} (h:xw t):bU t=true:=by
 rcases h with ⟨v,rfl⟩ | rfl | rfl <;> rfl
theorem Br:∀ {l:List T},(∀ t∈l,bU t=true)→eR l=true
 | [],_=>rfl
 | t :: l,h=>by rw [eR,h t c6,Br fun t ht=>h t (eB _ ht)]; rfl
theorem sh:∀ {l:List T},(∀ t∈l,plainT t=true)→bQ l=true
 | [],_=>rfl
 | t :: l,h=>by rw [bQ,h t c6,sh fun t ht=>h t (eB _ ht)]; rfl
theorem Bs {n:Nat}:∀ {l:List T},(∀ t∈l,dep t≤n)→fY l≤n
 | [],_=>by simp [fY]
 | t :: l,h=>by
   have h1:=h t c6
   have h2:=Bs fun t ht=>h t (eB _ ht)
   simp only [fY]; omega
def resT (R:Res):T:=.tup [.lst R.1,R.2]
theorem mf {R:Res} (h1:∀ t∈R.1,pM t) (h2:xw R.2):plainT (resT R)=true∧dep (resT R)≤100:=by
 obtain ⟨dn,en⟩:=R
 have p1:=sh fun t ht=>(xx (h1 t ht)).1
 have p2:=Bs (n:=3) fun t ht=>(xx (h1 t ht)).2
 have p3:plainT en=true∧dep en≤1:=by rcases h2 with ⟨v,rfl⟩ | rfl | rfl <;> exact ⟨rfl,by simp [jF,wJ,ig,dep,fY]⟩
 refine ⟨by simp [resT,plainT,bQ,p1,p3.1],?_⟩
 simp only [resT,dep,fY] at *
 omega
end Run
namespace Run
open PySem L2 VT Gen K5 Lay
open l_ (CQ)
inductive xy (rs:List Rw) (ins:List Int) (most:Nat):Res→Prop where
 | bare (h:dN rs=none):xy rs ins most ([],jF 0)
 | dF {a:Nat} {f:Str} {ps:List Str} (h:dN rs=some a) (hd:rs[a]?=some (.df f ps)) (ok:∀ r∈rs,u_ r) (hg:∃ o l,rs=l ++ [.give o]):xy rs ins most (bK most (rs.drop a) a (bo ps (ins.map cv) ps.length) [])
def gPk (ts:List T) (q:List T→T→Prop):Prop:=∃ rs ins most R,ts=[.lst (rs.map a8),.lst (ins.map .int),.int ((most:Nat):Int),.aT]∧K0 rs∧rs.length≤100∧ins.length≤100∧xy rs ins most R∧q R.1 R.2
theorem uG {rs:List Rw} {j:Nat} {r:Rw} (h:rs[j]?=some r):rs.drop j=r :: rs.drop (j+1):=by
 obtain ⟨hj,e⟩:=fG.mp h
 rw [YG hj,e]
theorem je {rs:List Rw} (hg:∃ o l,rs=l ++ [Rw.give o]) {j:Nat} {r:Rw} (h:rs[j]?=some r) (hr:V2 r=false):j+1 < rs.length:=by
 obtain ⟨o,l,rfl⟩:=hg
 have hj:=(fG.mp h).1
 rw [uY,List.length_singleton] at *
 by_cases e:j=l.length
 · subst e
   rw [uX (dm _),Nat.sub_self] at h
   cases h
   cases hr
 · omega
theorem zJ (cM cF:Addr) (L:T) {rs:List Rw} {most j n:Nat} {e:Ev} {dn:List T} {R:Res} {r:Rw} (hg:∃ o l,rs=l ++ [Rw.give o]) (hr:rs[j]?=some r) (ok:u_ r) (he:gd e n) (hd:dn.length≤j) (hR:bK most (rs.drop j) j e dn=R) :
  (j+1 < rs.length∧∃ e' Ho,sg cM cF L (most:Int) j e dn r=ms cM cF L most [e'] Ho (.int ((j+1:Nat):Int)) .aT∧gd e' (n+1)∧Ho.length≤j+1∧bK most (rs.drop (j+1)) (j+1) e' Ho=R)∨∃ fr,sg cM cF L (most:Int) j e dn r=ms cM cF L most fr R.1 (.int (j:Nat)) R.2:=by
 rw [uG hr] at hR
 have e1:gd e (n+1):=⟨Nat.le_succ_of_le he.n,he.ri⟩
 have l1:∀ t:T,(dn ++ [t]).length≤j+1:=fun t=>by simp; omega
 unfold sg
 cases r with
 | skip =>
   rw [if_pos (show pG .skip=true from rfl)]
   exact .inl ⟨je hg hr rfl,e,dn,rfl,e1,by omega,hR⟩
 | df f ps =>
   rw [if_neg (show ¬ pG (.df f ps)=true from eC)]
   simp only [bK] at hR
   by_cases h:most≤dn.length
   · rw [if_pos h] at hR
     rw [if_pos (by omega)]
     subst hR
     exact .inr ⟨_,rfl⟩
   · rw [if_neg h] at hR
     rw [if_neg (by omega)]
     exact .inl ⟨je hg hr rfl,e,_,rfl,e1,l1 _,hR⟩
 | put x a =>
   rw [if_neg (show ¬ pG (.put x a)=true from eC)]
   simp only [bK] at hR
   by_cases h:most≤dn.length
   · rw [if_pos h] at hR
     rw [if_pos (by omega)]
     subst hR
     exact .inr ⟨_,rfl⟩
   · rw [if_neg h] at hR
     rw [if_neg (by omega)]
     exact .inl ⟨je hg hr rfl,_,_,rfl,he.put x (he.look ok),l1 _,hR⟩
 | kz x a op b =>
   rw [if_neg (show ¬ pG (.kz x a op b)=true from eC)]
   simp only [bK] at hR
   by_cases h:most≤dn.length
   · rw [if_pos h] at hR
     rw [if_pos (by omega)]
     subst hR
     exact .inr ⟨_,rfl⟩
   · rw [if_neg h] at hR
     rw [if_neg (by omega)]
     simp only [sf]
     cases hk:t7 op (ba e a) (ba e b) with
     | none =>
       rw [hk] at hR
       subst hR
       exact .inr ⟨_,rfl⟩
     | some v =>
       rw [hk] at hR
       exact .inl ⟨je hg hr rfl,_,_,rfl,he.put x (Gx hk),l1 _,hR⟩
 | give a =>
   rw [if_neg (show ¬ pG (.give a)=true from eC)]
   simp only [bK] at hR
   by_cases h:most≤dn.length
   · rw [if_pos h] at hR
     rw [if_pos (by omega)]
     subst hR
     exact .inr ⟨_,rfl⟩
   · rw [if_neg h] at hR
     rw [if_neg (by omega)]
     subst hR
     exact .inr ⟨_,rfl⟩
 | _=>exact ok.elim
def Wv (P:Program) (w:World) (K:KFr) (mg:Str→Option Value) (base:Heap) (C:Addr) (GL:List T→(T→Prop)→Prop) (k:Nat):Prop :=
 ∃ f fd,Mk K C f∧mg "Machine" = some (.ref C)∧Binds K fd ["self","program","most","poke"] []∧b_ P w K mg base dI k f fd ["self","program","most","poke"] (spK K C GL)
def S6 (a:Addr) (most:Nat) (m:T) (s:S):En:=[none,none,some (.int (most:Int),false),some (.aT,false),some (.pin a s.t,false),some (m,false)]
section
variable {P:Program} {w:World} {K:KFr} {mg:Str→Option Value} {base:Heap} {ay cFrame aw:Addr}
abbrev C0:List Str:=["self","program","most","poke"]
theorem zK:aC C0 ["self","program","most","poke"] (ah gC):=L2.gj
theorem zL {f:Addr} {fd:FuncData} (D:Dc K mg "Machine" "Machine.__init__" gC ["self","program","most","poke"] aw f fd) (L:DS K aw) (Hq:FC P w K mg base "Layout" ay ["self","program"] 2 1 (kG ay)):Wv P w K mg base aw (kG ay) 4:=by
 obtain ⟨Ww,S7,Hr,Hs,Ht,Hu⟩:=Hq
 exact ⟨f,fd,D.M,D.m,D.b,fnK D.F zK rfl fun bu A outer s H E hr=>F6 Hr Hu (hr.mono (by decide)) (by rfl) Hs Ht L.cl L.e7 L.G' L.uA L.iQ L.LH L.Ha L.iR L.eJ L.g9⟩
abbrev iW:List Str:=["program","inputs","most","poke","machine","main"]
theorem kQ:aC iW ["program","inputs","most","poke"] (ah fS):=L2.gj
theorem ny:(iW ++ (["number"]:List Str)).Nodup:=by decide +kernel
theorem uH {f:Addr} {fd:FuncData} (D:Df K mg "run_poked" fS ["program","inputs","most","poke"] f fd) (ag:DS K aw) (aB:QK K ay) (C1:Wv P w K mg base aw (kG ay) 4) (LX:cy P w K mg base "enter" ["machine","place","call","given"] 3 (nP K 3 (He aw cFrame ay))) (pq:cy P w K mg base "fit" ["number"] 1 (cT K 1 CQ)) (Rp:cy P w K mg base "step" ["machine"] 6 (nP K 0 (NZ aw cFrame ay))) :
  cy P w K mg base "run_poked" ["program","inputs","most","poke"] 7 (SW K 4 gPk):=by
 obtain ⟨S8,Rq,C2,C3,C4,C5⟩:=C1
 obtain ⟨Yx,Wx,LY,k_enter,LZ,L1⟩:=LX
 obtain ⟨G9,zk,iL,iM,iN,iO⟩:=pq
 obtain ⟨acK,Yy,Rr,Ru,Rv,Rx⟩:=Rp
 refine D.gJ (fnR (GL:=kG ay) (j:=4) (C:=aw) D.F kQ rfl (by decide) fun bu A outer s H E hr t0 t1 t2 t3 q hG=>?_)
 have nd:=kQ.nd
 obtain ⟨rs,ins,most,R,et,B,hn,Bt,hR,hq⟩:=hG
 cases et
 refine ⟨_,fun L=>L=dc ay rs,F7 (X:=(eG dI P w K mg base iW "run_poked" (ah fS) f bu A outer s H E).nZ) (k:=4) nd rfl (Or.inl rfl) C2 C5 (hr.mono (by decide)) (by rfl) C3 C4 (fun H0 rH Ox a=>(oZ (eh fun _=>(bh (i:=5) nd rfl (Or.inl rfl) (VP.vx (bD aB.cl aB.GW (VP.vr (bD ag.cl ag.e7 (cD (aa 4)))))) ki))
   (oZ (wq (fun _=>(vV (aa 5) (VP.vr cQ)))
     (bZ (iD ag.cl ag.g9 (fun _=>(VP.ve (bp (ae (VP.ve aM) (ae (VP.ve af) ak))))) rfl))
     (bZ (jb L1 (hr.mono (by decide)) (by rfl) LY k_enter LZ (fun _=>(ae (aq 5) (ae (VP.ve cQ) (ae (VP.ve (fO (ts:=["number"]) rfl (by rfl) (eU (aq 1)) (fun _ _ _ _ _ _=>(bB (i:=6) ny rfl (Or.inl rfl) ki)) (fun _ _ _ _ _ _=>eI) (fun _ _ _ _ _ _=>(VP.ve (aV iO (hr.mono (by decide)) (by rfl) iL iM iN (ae (aq 6) ak)))))) ak)))) rfl)))
   (oZ (F0 DX (fun _=>(vV (VP.vr (bD ag.cl ag.g9 (cD (aa 4)))) (VP.vr cQ)))
     (bZ (jb Rx (hr.mono (by decide)) (by rfl) Rr Ru Rv (fun _=>ak) rfl)))
   (KQ (lN ag.cl ag.iR (oY)) (fun _=>(VP.ve (bD ag.cl ag.g9 (cD (aa 4)))))))))),by decide,rfl,rfl,⟨rs,rfl,B,hn,rfl⟩,?_⟩
 rintro L rfl H0 rH Ox a
 show NG _ _ _ _ [some (.lst (rs.map a8),false),some (.lst (ins.map .int),false),some (.int (most:Int),false),some (.aT,false),some (.pin a (ms aw cFrame (dc ay rs) most [] [] .aT .aT).t,false),none] (ms aw cFrame (dc ay rs) most [] [] .aT .aT)
 rw [ij]
 refine ⟨rfl,_,rfl,rfl,_,rfl,by rw [ij]; rfl,?_⟩
 cases hR with
 | bare h =>
   rw [h]
   refine ⟨cf (by simp),rfl,yZ rfl,_,_,8,_,rfl,(by show 9 < 1000; decide),rfl,rfl,?_⟩
   refine ⟨fun _ ρ s=>ρ=S6 a most .aT s∧s=ms aw cFrame (dc ay rs) most [] [] .aT (jF 0),⟨0,rfl,rfl⟩,?_⟩
   rintro m ρ s ⟨rfl,rfl⟩
   unfold S6
   rw [ij]
   refine ⟨rfl,_,rfl,?_⟩
   exact ⟨[],ua,rfl,rfl,_,rfl,rfl,hq⟩
 | @dF a' f' ps h hd ok hg =>
   rw [h]
   have okd:u_ (.df f' ps):=ok _ (ik hd)
   have hal:=(fG.mp hd).1
   have hgs:∀ g∈ins.map cv,RI g:=fun g hg=>by obtain ⟨i,_,rfl⟩:=vd.mp hg; exact t5 i
   have fo:=me most (rs.drop a') a' (bo ps (ins.map cv) ps.length) [] (fun f ps hm=>(ok _ (List.mem_of_mem_drop hm)).1) (fun t ht=>nomatch ht)
   generalize hRR:bK most (rs.drop a') a' (bo ps (ins.map cv) ps.length) []=R at fo hq
   have hN:vU R.2=false:=by rcases fo.2 with ⟨v,e⟩ | e | e <;> rw [e] <;> rfl
   refine ⟨yZ rfl,rfl,cf (by rw [cU]; omega),?_⟩
   refine dX (f:=T.int) (u:=fun i=>.int (cv i)) (fun i _ k hk=>⟨rfl,i,rfl,hk⟩) ?_
   refine ⟨rfl,rs,a',f',ps,ins.map cv,most,by rw [Ap]; rfl,rfl,hd,okd.1,?_⟩
   refine ⟨fun m ρ s=>(∃ j e dn n,ρ=S6 a most (.int (a':Nat)) s∧s=ms aw cFrame (dc ay rs) most [e] dn (.int (j:Nat)) .aT∧j < rs.length∧gd e n∧n≤100+j∧dn.length≤j∧bK most (rs.drop j) j e dn=R∧m=rs.length - j+1)∨(∃ fr pl,ρ=S6 a most (.int (a':Nat)) s∧s=ms aw cFrame (dc ay rs) most fr R.1 pl R.2∧m=0),
    ⟨_,.inl ⟨a',_,[],ps.length,rfl,rfl,hal,ub ps _ hgs _,by have:=okd.1; omega,jw _,hRR,rfl⟩⟩,?_⟩
   rintro m ρ s (⟨j,e,dn,n,rfl,rfl,hj,he,hn',Hk,hRj,rfl⟩ | ⟨fr,pl,rfl,rfl,rfl⟩)
   · obtain ⟨r,dY⟩:∃ r,rs[j]?=some r:=⟨_,qe hj⟩
     have N5:=ok r (ik dY)
     unfold S6
     rw [ij]
     refine ⟨rfl,_,rfl,?_⟩
     refine ⟨yZ rfl,rfl,rs,r,j,most,e,dn,n,rfl,rfl,dY,hn,N5,he,by omega,by omega,?_⟩
     rcases zJ aw cFrame (dc ay rs) hg dY N5 he Hk hRj with ⟨hl,e',Ho,es,he',Tp,hR'⟩ | ⟨fr,es⟩
     · rw [es]
       exact ⟨rs.length - (j+1)+1,by omega,.inl ⟨j+1,e',Ho,n+1,rfl,rfl,hl,he',by omega,Tp,hR',rfl⟩⟩
     · rw [es]
       exact ⟨0,by omega,.inr ⟨fr,_,rfl,rfl,rfl⟩⟩
   · unfold S6
     rw [ij]
     refine ⟨rfl,_,rfl,?_⟩
     refine E7 (c:=vU R.2) hN ?_
     exact ⟨R.1,ua,Br fun t ht=>Ro (fo.1 t ht),rfl,_,rfl,LW fo.2,hq⟩
abbrev Wy:List Str:=["program","inputs","most"]
theorem Ry:aC Wy ["program","inputs","most"] (ah e6):=L2.gj
def acL (ts:List T) (q:List T→T→Prop):Prop:=∃ rs ins most R,ts=[.lst (rs.map a8),.lst (ins.map .int),.int ((most:Nat):Int)]∧K0 rs∧rs.length≤100∧ins.length≤100∧xy rs ins most R∧q R.1 R.2
def Rz (P:Program) (w:World) (K:KFr) (mg:Str→Option Value) (base:Heap):Prop :=
 ∃ f fd tk,mg "run" = some (.ref f)∧PySem.W.keepIn K (.ref f)=true∧Binds K fd ["program","inputs","most"] []∧Binds K fd ["program","inputs","most"] [.int 200 tk]∧b_ P w K mg base dI 8 f fd ["program","inputs","most"] (SW K 3 acL)
theorem RA {f:Addr} {fd:FuncData} {tk:Tok} (F:F8 K "run" "run" e6 f fd) (m:mg "run" = some (.ref f)) (b:Binds K fd ["program","inputs","most"] []) (b2:Binds K fd ["program","inputs","most"] [.int 200 tk]) (xA:cy P w K mg base "run_poked" ["program","inputs","most","poke"] 7 (SW K 4 gPk)):Rz P w K mg base:=by
 obtain ⟨N6,L3,xB,xD,xE,xF⟩:=xA
 refine ⟨f,fd,tk,m,F.kp,b,b2,acB F Ry rfl (by decide) fun bu A outer s H E Ox hr ts q hG hl=>?_⟩
 obtain ⟨rs,ins,most,R,rfl,B,hn,Bt,hR,hq⟩:=hG
 exact ⟨_,_,_,rfl,gz xF (hr.mono (by decide)) (by rfl) xB xD xE .nil (dts:=[]) (fun _ _=>az.nil) (ae (aq 0) (ae (aq 1) (ae (aq 2) (ae (VP.ve cQ) ak)))),rfl,rs,ins,most,R,rfl,B,hn,Bt,hR,hq⟩
end
end Run
namespace zM
open PySem L2 VT Gen
open AG (bP B2 c_)
def one (c:Nat):Str:=⟨#[c]⟩
theorem empty_eq:(("" : String):Str)=⟨#[]⟩:=by decide +kernel
theorem glue:∀ l:List Nat,Txt.join "" (l.map one)=⟨l.toArray⟩
 | []=>by decide +kernel
 | c :: l=>by
   have ih:=glue l
   unfold Txt.join at ih ⊢
   rw [StrLaws.glued_eq_join] at ih ⊢
   cases l with
   | nil=>rfl
   | cons d l =>
     rw [i5,i5]
     show one c ++ (("" : String):Str) ++ Str.join _ (one d :: l.map one)=_
     rw [i5] at ih
     rw [ih,empty_eq]
     show (⟨(#[c] ++ #[]) ++ (d :: l).toArray⟩:Str)=_
     simp
def bL (n:Int) (j:Nat):Nat:=qG (n / (7 * (j:Int)+3))
def dO (n:Int):List Str:=(List.range 8).map fun j=>one (bL n j)
def RB (n:Int) (k:Nat):Str:=⟨((List.range (k+1)).map (bL n)).toArray⟩
def qU (n:Int) (p k j:Nat):Nat:=if j=p then qG (n / 5+(k:Int)) else bL n j
def alt (n:Int) (sz p k:Nat):Str:=⟨((List.range sz).map (qU n p k)).toArray⟩
structure uI (m:Nat) (ys:List Str):Prop where
 l:ys.length=m
 nd:ys.Nodup
 nm:∀ y∈ys,c_ y=true
theorem pN (n:Int):(dO n).length=8:=by simp [dO]
theorem xG (l:List Nat) (h1:1≤l.length) (h8:l.length≤8) (h:∀ c∈l,B2 c=true):c_ ⟨l.toArray⟩=true:=by
 unfold c_
 have e:(⟨l.toArray⟩:Str).length=l.length:=by simp [Str.length]
 rw [e,decide_eq_true (by omega),decide_eq_true (by omega),Tj,Tj]
 exact Oi.mpr h
theorem RC (n:Int) {m:Nat} (hm:m≤8):uI m ((List.range m).map (RB n)):=by
 refine ⟨by simp,?_,fun y hy=>?_⟩
 · rw [List.Nodup,List.pairwise_map]
   refine List.Pairwise.imp_of_mem ?_ (List.nodup_range (n:=m))
   intro i j hi hj eK e
   have e2:(RB n i).length=(RB n j).length:=by rw [e]
   simp [RB,Str.length] at e2
   exact eK e2
 · obtain ⟨k,hk,rfl⟩:=vd.mp hy
   have A3:=IE.mp hk
   refine xG _ (by simp) (by simp; omega) fun c hc=>?_
   obtain ⟨j,_,rfl⟩:=vd.mp hc
   exact A6 _
theorem RD (n:Int) {sz p m:Nat} (h1:1≤sz) (h8:sz≤8) (hp:p < sz) (hm:m≤26):uI m ((List.range m).map (alt n sz p)):=by
 refine ⟨by simp,?_,fun y hy=>?_⟩
 · rw [List.Nodup,List.pairwise_map]
   refine List.Pairwise.imp_of_mem ?_ (List.nodup_range (n:=m))
   intro i j hi hj eK e
   have Uu:=IE.mp hi
   have Ng:=IE.mp hj
   have h2:(List.range sz).map (qU n p i)=(List.range sz).map (qU n p j):=by
    have:=congrArg (fun y:Str=>y.cps.toList) e
    exact this
   have h3:=congrArg (fun l:List Nat=>l[p]?) h2
   simp only [i4,Xx hp,Ti,Option.some.injEq,qU,if_true] at h3
   have h4:=Gk h3
   omega
 · obtain ⟨k,hk,rfl⟩:=vd.mp hy
   refine xG _ (by simp; omega) (by simp; omega) fun c hc=>?_
   obtain ⟨j,_,rfl⟩:=vd.mp hc
   unfold qU
   split <;> exact A6 _
theorem si (n:Int) {k:Nat} (hk:k≤8):(dO n).take k=((List.range k).map (bL n)).map one:=by
 unfold dO
 rw [← List.map_take,List.take_range,Nat.min_eq_left hk,Ap]
 rfl
theorem Hv (n:Int) {sz p k:Nat} (hsz:sz≤8) (hp:p < sz):((dO n).take sz).set p (one (qG (n / 5+(k:Int))))=((List.range sz).map (qU n p k)).map one:=by
 rw [si n hsz,Ap,Ap]
 refine SD fun i=>?_
 rw [Tg,i4,i4]
 by_cases hi:i < sz
 · rw [Xx hi]
   by_cases e:p=i
   · subst e
     rw [if_pos rfl,if_pos (by simpa using hp)]
     simp [qU]
   · rw [if_neg e]
     have:¬ i=p:=fun z=>e z.symm
     simp [qU,this]
 · rw [IX (by simp; omega)]
   split
   · split
     · rename_i h1 h2; omega
     · rfl
   · rfl
end zM
namespace eF
open PySem L2 VT Gen zM
open AG (bP)
def top (i:Nat):Stmt:=PySem.Challenge.pw_slicewise_k12_straight_rows.main.body.getD i (.Pass ⟨0,0,0,0⟩)
abbrev jf:Stmt:=top 54
abbrev nS:Stmt:=top 55
abbrev kR:Stmt:=top 56
abbrev jg:Stmt:=top 57
structure Mg (mg:Str→Option Value):Prop where
 len:mg "len" = none
 range:mg "range" = none
 tuple:mg "tuple" = none
theorem cf {n:Nat} (h:n≤1000):n≤sizeLine:=Gen.small h
abbrev mh (ys:List Str):T:=.lst (ys.map .str)
def N7 (n:Int):Prop:=0≤n∧n < 2147483648
theorem N7.div {n:Int} (h:N7 n) {e:Int} (he:0 < e):N7 (n / e):=⟨Int.ediv_nonneg h.1 (by omega),Int.lt_of_le_of_lt (Int.ediv_le_self _ h.1) h.2⟩
structure Ys (ys:List Str):Prop where
 l3:3≤ys.length
 l8:ys.length≤8
 sm:∀ y∈ys,y.length≤100
theorem Ys.at {ys:List Str} (h:Ys ys) (n:Int):∃ y∈ys,kY (ys.map T.str) (n % ((ys.map T.str).length:Int))=some (T.str y):=by
 have e:((ys.map T.str).length:Int)=(ys.length:Int):=by rw [cU]
 have l3:=h.l3
 have h0:0≤n % ((ys.map T.str).length:Int):=qf n (by omega)
 have h1:n % ((ys.map T.str).length:Int) < ys.length:=by rw [e]; exact qi n (by omega)
 obtain ⟨j,hj⟩:=DU h0
 have il:j < ys.length:=by omega
 refine ⟨ys[j],Oj il,?_⟩
 rw [hj]
 refine ai ?_
 rw [i4,qe il]
 rfl
theorem Ys.pos {ys:List Str} (h:Ys ys):(0:Int) < ((ys.map T.str).length:Int):=by rw [cU]; have:=h.l3; omega
def Hw (ts:List T) (q:Rt→Prop):Prop:=∃ (ns:List Int) (j:Nat),ts=[.lst (ns.map .int),.int (j:Int)]∧q (.vw (.int (ns.getD j 0)))
def zN (ts:List T) (q:Rt→Prop):Prop:=∃ (c:Int) (m:Nat),ts=[.int c,.int (m:Int)]∧m≤8∧∀ ys,uI m ys→q (.fr (mh ys))
def N8 (ts:List T) (q:Rt→Prop):Prop:=∃ c:Int,ts=[.int c]∧N7 c∧∀ i,-1000000000000000000000000000000≤i∧i < 1000000000000000000000000000000→q (.vw (.int i))
def xH (ts:List T) (q:Rt→Prop):Prop:=∃ (c:Int) (ys:List Str),ts=[.int c,mh ys]∧N7 c∧Ys ys∧∀ o,wB ys o→q (.vw (eM o))
theorem pO {α β:Type} (f:α→β) (l:List α) (k:Nat) (h:k≤l.length):f_ (l.map f) none (some (k:Int))=(l.take k).map f:=by
 unfold f_
 rw [cU,HT.Jn,HT.El,Nat.min_eq_left h,List.drop_zero,Nat.sub_zero,← List.map_take]
theorem acM (l:List Nat):((l.map one).map (·.length)).sum=l.length:=by
 induction l with
 | nil=>rfl
 | cons c l ih=>rw [i5,i5,List.sum_cons,ih]; show 1+l.length=l.length+1; omega
theorem RE:((("" : String):Str)).length=0:=by decide +kernel
theorem N9 {l:List Nat} (h:l.length≤100):((l.map one).map (·.length)).sum+(l.map one).length * ((("" : String):Str)).length≤16777216:=by rw [acM,RE]; omega
section
variable {P:Program} {w:World} {K:KFr} {mg:Str→Option Value} {base:Heap}
abbrev C6:List Str:=["_law_script","_law_k"]
theorem pP:aC C6 ["_law_script","_law_k"] (ah jf):=L2.gj
theorem zO {f:Addr} {fd:FuncData} (D:Df K mg "_law_cell_at" jf ["_law_script","_law_k"] f fd) (M:Mg mg):cy P w K mg base "_law_cell_at" ["_law_script","_law_k"] 1 (cT K 2 Hw):=by
 refine D.gJ (kj D.F pP rfl fun bu A outer s H E Ox hr ts q hG=>?_)
 have nd:=pP.nd
 refine ⟨_,(aj (bE (vK (aa 1) (VP.vr (bq bc bf (by rfl) M.len rh (aE (aa 0) aQ))))
    (ar (aJ (VP.vx (aH (aa 0) (aa 1)))))
    aO)
   (ar (aJ (VP.vx af)))),fun _=>?_⟩
 obtain ⟨ns,j,rfl,hq⟩:=hG
 refine yy (fun h=>?_) (fun h=>?_)
 · have h':(j:Int) < ((ns.map T.int).length:Int):=of_decide_eq_true h
   rw [cU] at h'
   have hj:j < ns.length:=by omega
   refine ⟨.int (ns.getD j 0),ai ?_,hq⟩
   rw [i4,qe hj,List.getD,qe hj]
   rfl
 · have h':¬ ((j:Int) < ((ns.map T.int).length:Int)):=fun z=>h (decide_eq_true z)
   rw [cU] at h'
   have e:ns.getD j 0=0:=by
    rw [List.getD,IX (by omega)]
    rfl
   rw [e] at hq
   exact hq
abbrev Hx:List Str:=["_law_cell"]
theorem sj:aC Hx ["_law_cell"] (ah kR):=L2.gj
theorem C7 {f:Addr} {fd:FuncData} (D:Df K mg "_law_number" kR ["_law_cell"] f fd) (M:Mg mg):cy P w K mg base "_law_number" ["_law_cell"] 1 (cT K 1 N8):=by
 refine D.gJ (kj D.F sj rfl fun bu A outer s H E Ox hr ts q hG=>?_)
 have nd:=sj.nd
 have hu:=bz.gx hr
 refine ⟨_,(aj (bE (cp hu (VP.vr (bx (aa 0) (VP.vr af))) (VP.vr af))
    (ar (aJ (VP.vx (jM (VP.vr (bx (VP.vr (ix (VP.vr (cu (VP.vr (lj (aa 0) (VP.vr af))) (VP.vr af))) (VP.vr af))) (VP.vr (lj (VP.vr af) (VP.vr (ix (VP.vr af) (VP.vr af))))))) (VP.vr (ix (VP.vr af) (VP.vr af)))))))
    aO)
   (ar (aJ (VP.vx (jM (VP.vr (bx (VP.vr (cn (aa 0) (VP.vr af))) (VP.vr af))) (VP.vr af)))))),fun _=>?_⟩
 obtain ⟨c,rfl,⟨h0,h1⟩,hq⟩:=hG
 refine ⟨by decide,jt (fun _=>?_) (fun _=>?_)⟩
 · refine ⟨.inl ⟨by omega,by omega⟩,⟨by decide,by decide,by show (c * 48271+7).natAbs < 2 ^ 64; omega⟩,⟨by decide,by decide,by decide⟩,.inl ⟨by decide,by decide⟩,by decide +kernel,⟨by decide,by decide,by decide⟩,hq _ ?_⟩
   rw [Gi]
   have g0:=qf ((c * 48271+7) ^ (5:Int).toNat) (show (2 * 1000000000000000000000000000000:Int)≠0 by decide)
   have g1:=qi ((c * 48271+7) ^ (5:Int).toNat) (show (0:Int) < 2 * 1000000000000000000000000000000 by decide)
   exact ⟨by omega,by omega⟩
 · refine ⟨⟨by decide,by decide⟩,by decide,hq _ ?_⟩
   have g0:=qf (c / 3) (show (7:Int)≠0 by decide)
   have g1:=qi (c / 3) (show (0:Int) < 7 by decide)
   exact ⟨by omega,by omega⟩
abbrev C8:List Str:=["_law_cell","_law_names_here"]
theorem pQ:aC C8 ["_law_cell","_law_names_here"] (ah jg):=L2.gj
theorem zP {f:Addr} {fd:FuncData} (D:Df K mg "_law_operand" jg ["_law_cell","_law_names_here"] f fd) (M:Mg mg) (Hy:cy P w K mg base "_law_number" ["_law_cell"] 1 (cT K 1 N8)):cy P w K mg base "_law_operand" ["_law_cell","_law_names_here"] 2 (cT K 2 xH):=by
 obtain ⟨Wz,S9,Hz,HA,HB,HC⟩:=Hy
 refine D.gJ (kj D.F pQ rfl fun bu A outer s H E Ox hr ts q hG=>?_)
 have nd:=pQ.nd
 have hu:=bz.gx hr
 refine ⟨_,(aj (bE (cp hu (VP.vr (bx (aa 0) (VP.vr af))) (VP.vr af))
    (ar (aJ (VP.vx (aH (aa 1) (VP.vr (bx (VP.vr (cn (aa 0) (VP.vr af))) (VP.vr (bq bc bf (by rfl) M.len rh (aE (aa 1) aQ)))))))))
    aO)
   (ar (aJ (VP.vx (aV HC (hr.mono (by decide)) (by rfl) Hz HA HB (ae (VP.ve (cn (aa 0) (VP.vr af))) ak)))))),fun _=>?_⟩
 obtain ⟨c,ys,rfl,R,Y,hq⟩:=hG
 refine ⟨by decide,jt (fun _=>?_) (fun _=>?_)⟩
 · obtain ⟨y,hy,e⟩:=Y.at (c / 2)
   exact ⟨⟨by decide,by decide⟩,Y.pos,_,e,hq (.nm y) hy⟩
 · exact ⟨⟨by decide,by decide⟩,rfl,_,rfl,R.div (by decide),fun i hi=>hq (.nu i) hi⟩
abbrev kO:List Str:=["_law_cell","_law_many","_law_letters","_law_number_here","_law_size","_law_base","_law_names_here","_law_k","_law_here"]
theorem xI:aC kO ["_law_cell","_law_many"] (ah nS):=L2.gj
theorem xJ:((["_law_cell","_law_many","_law_letters","_law_number_here","_law_size","_law_base","_law_names_here","#_law_k","_law_here"]:List Str) ++ (["_law_k"]:List Str)).Nodup:=by decide +kernel
theorem xK:((["_law_cell","_law_many","_law_letters","_law_number_here","_law_size","_law_base","_law_names_here","#_law_k","_law_here"]:List Str) ++ (["_law_k"]:List Str)).Nodup:=by decide +kernel
theorem xM:(["_law_cell","_law_many","_law_letters","_law_number_here","_law_size","_law_base","_law_names_here","#_law_k","_law_here"]:List Str).Nodup:=by decide +kernel
theorem HF {f:Addr} {fd:FuncData} (D:Df K mg "_law_names" nS ["_law_cell","_law_many"] f fd) (M:Mg mg):cy P w K mg base "_law_names" ["_law_cell","_law_many"] 1 (cT K 2 zN):=by
 refine D.gJ (kj D.F xI rfl fun bu A outer s H E Ox hr ts q hG=>?_)
 have nd:=xI.nd
 have hu:=bz.gx hr
 have np:∀ {i:Nat},br ⟨H,[],Ox⟩ i:=ki
 have S_:∀ {is:List Nat},∀ i∈is,br ⟨H,[],Ox⟩ i:=fun i _=>ki
 refine ⟨_,(aj (bh (i:=2) nd rfl (Or.inr rfl) (VP.vx aM) np)
   (aj (bh (i:=3) nd rfl (Or.inr rfl) (VP.vx (bx (VP.vr (lj (VP.vr (bx (aa 0) (VP.vr (ix (VP.vr af) (VP.vr af))))) (VP.vr af))) (VP.vr af))) np)
   (aj (bh (i:=4) nd rfl (Or.inl rfl) (VP.vx (cu (VP.vr af) (VP.vr (bx (aa 3) (VP.vr af))))) np)
   (aj (tV 7 "#_law_k" np (bh (i:=5) xM rfl (Or.inr rfl) (VP.vx (fO (ts:=["_law_k"]) rfl (by rfl) (i_ (by rfl) M.range (VP.vr af)) (fun _ _ _ _ _ _=>(bB (i:=9) xJ rfl (Or.inl rfl) np)) (fun _ _ _ _ _ _=>eI) (fun _ _ _ _ _ _=>(VP.ve (aH (aa 2) (VP.vr (bx (VP.vr (cn (aa 3) (VP.vr (cu (VP.vr (lj (VP.vr af) (aa 9))) (VP.vr af))))) (VP.vr af)))))))) np))
   (aj (bE (cp hu (VP.vr (bx (VP.vr (cn (aa 3) (VP.vr af))) (VP.vr af))) (VP.vr af))
     (ar (tV 7 "#_law_k" np (aJ (VP.vx (fO (ts:=["_law_k"]) rfl (by rfl) (i_ (by rfl) M.range (aa 1)) (fun _ _ _ _ _ _=>(bB (i:=9) xK rfl (Or.inl rfl) np)) (fun _ _ _ _ _ _=>eI) (fun _ _ _ _ _ _=>(VP.ve (rR (VP.vr aM) (aE (VP.vr (eS (aa 5) i9 (fK (VP.vr (cu (aa 9) (VP.vr af)))))) aQ)))))))))
     aO)
   (aj (dR (i:=6) nd rfl (Or.inl rfl) (VP.vx (cz ak)) np)
   (aj (gb DX rfl (i_ (by rfl) M.range (aa 1)) (bB (i:=7) nd rfl (Or.inl rfl) np)
     (aj (dR (i:=8) nd rfl (Or.inl rfl) (VP.vx (eS (aa 5) i9 (fK (aa 4)))) np)
     (aj (lq 8 (VP.ve (aH (aa 2) (VP.vr (bx (VP.vr (cu (VP.vr (cn (aa 3) (VP.vr af))) (aa 7))) (VP.vr af))))) (VP.vr (bx (VP.vr (cn (aa 3) (VP.vr af))) (aa 4))))
     (nH [8] (ar (fM (rJ 6 Mt Mu cZ dS (ae (VP.ve (rR (VP.vr aM) (aE (aa 8) aQ))) ak)))) S_))))
   (ar (aJ (AK 6 np)))))))))),fun _=>?_⟩
 obtain ⟨c,m,rfl,hm,hq⟩:=hG
 refine ⟨⟨by decide,by decide,by decide⟩,by decide +kernel,.inr ⟨by decide,by decide⟩,by decide,by decide,?_⟩
 generalize hn:c % (10:Int) ^ (9:Int).toNat * 48271 % 2147483647=n
 have n0:0≤n:=by rw [← hn]; exact qf _ (by decide)
 have n1:n < 2147483647:=by rw [← hn]; exact qi _ (by decide)
 obtain ⟨sz,esz⟩:=DU (show 0≤1+n % 8 by have:=qf n (show (8:Int)≠0 by decide); omega)
 have acN:1≤sz:=by have:=qf n (show (8:Int)≠0 by decide); omega
 have RF:sz≤8:=by have:=qi n (show (0:Int) < 8 by decide); omega
 refine ⟨rfl,by decide,by decide,by rw [gS]; exact cf (by decide),?_⟩
 refine iG (u:=fun j=>.str (one (bL n j))) (fun j hj r hr=>?_) ?_
 · have hj8:j < 8:=hj
   rw [Int.zero_add]
   refine ⟨.inl ⟨by decide,by decide⟩,⟨by show (0:Int) < 7 * (j:Int)+3; omega,by show 7 * (j:Int)+3 < 1073741824; omega⟩,by decide,?_⟩
   exact ⟨jE,_,rV _,hr⟩
 · have eb:((List.range 8).map fun j=>T.str (one (bL n j)))=(dO n).map T.str:=by unfold dO; rw [Ap]; rfl
   rw [show (8:Int).toNat=8 from rfl,eb,esz]
   refine ⟨⟨by decide,by decide⟩,by decide,jt (fun _=>?_) (fun _=>?_)⟩
   · refine ⟨rfl,by omega,by omega,by rw [gS]; exact cf (by omega),?_⟩
     rw [xY]
     refine iG (u:=fun k=>.str (RB n k)) (fun k hk r hr=>?_) ?_
     · rw [Int.zero_add]
       have ec:f_ ((dO n).map T.str) none (some ((k:Int)+1))=(((List.range (k+1)).map (bL n)).map one).map T.str:=by
        have:((k:Int)+1)=((k+1:Nat):Int):=by omega
        rw [this,pO T.str (dO n) (k+1) (by rw [pN]; omega),si n (by omega)]
       refine ⟨((List.range (k+1)).map (bL n)).map one,?_,N9 (by simp; omega),?_⟩
       · show [T.lst (f_ ((dO n).map T.str) none (some ((k:Int)+1)))]=_
         rw [ec]
       · rw [glue]; exact hr
     · have e2:((List.range m).map fun k=>T.str (RB n k))=((List.range m).map (RB n)).map T.str:=by rw [Ap]; rfl
       rw [e2]
       exact hq _ (RC n hm)
   · refine ⟨cf (by simp),by omega,by omega,?_⟩
     rw [xY]
     refine oM (fun k ρ=>∃ b7 b8,ρ=[some (.int c,false),some (.int (m:Int),false),some (.str bP,false),some (.int n,false),some (.int (sz:Int),false),some (.lst ((dO n).map .str),false),some (.lst (((List.range k).map (alt n sz (n / 24 % (sz:Int)).toNat)).map .str),true),b7,b8]) ⟨_,_,rfl⟩ ?_ ?_
     · rintro k ρ hk ⟨b7,b8,rfl⟩
       rw [Int.zero_add]
       have ec:f_ ((dO n).map T.str) none (some (sz:Int))=((dO n).take sz).map T.str:=pO T.str (dO n) sz (by rw [pN]; exact RF)
       have p0:0≤n / 24 % (sz:Int):=qf _ (by omega)
       have p1:n / 24 % (sz:Int) < (sz:Int):=qi _ (by omega)
       obtain ⟨p,ep⟩:=DU p0
       have hp:p < sz:=by omega
       have el:(((dO n).take sz).map T.str).length=sz:=by rw [cU,Oh,pN]; omega
       refine ⟨⟨by decide,by decide⟩,by decide,jE,_,rV _,⟨by decide,by decide⟩,by show (0:Int) < (sz:Int); omega,p,?_,?_⟩
       · rw [ep]
         show uZ (f_ ((dO n).map T.str) none (some (sz:Int))).length _=_
         rw [ec,el]
         unfold uZ
         rw [if_pos (by omega),if_pos (by omega),xY]
       · have es:(((dO n).take sz).map T.str).set p (T.str (one (qG (n / 5+(k:Int)))))=(((List.range sz).map (qU n p k)).map one).map T.str:=by
          rw [← Hv n RF hp,List.map_set]
         refine ⟨((List.range sz).map (qU n p k)).map one,?_,N9 (by simp; omega),?_,some (.int (k:Int),false),?_⟩
         · show [T.lst ((f_ ((dO n).map T.str) none (some (sz:Int))).set p (T.str (one (qG (n / 5+(k:Int))))))]=_
           rw [ec,es]
         · rw [cU,cU,Th,sizeLine_eq]; omega
         · rw [glue]
           have eA:((List.range (k+1)).map (alt n sz (n / 24 % (sz:Int)).toNat)).map T.str=((List.range k).map (alt n sz (n / 24 % (sz:Int)).toNat)).map T.str ++ [T.str (alt n sz p k)]:=by
            rw [List.range_succ,Oq,Oq,ep]; rfl
           rw [eA]
           exact ⟨_,rfl⟩
     · rintro ρ ⟨b7,b8,rfl⟩
       refine hq _ (RD n acN RF ?_ (by omega))
       have p1:n / 24 % (sz:Int) < (sz:Int):=qi _ (by omega)
       omega
end
end eF
set_option exponentiation.threshold 4000
namespace cV
open PySem L2 VT Gen zM Run
open l_ (bg Wb pw bgS)
def top (i:Nat):Stmt:=PySem.Challenge.pw_slicewise_k12_straight_rows.main.body.getD i (.Pass ⟨0,0,0,0⟩)
abbrev jf:Stmt:=top 54
abbrev nS:Stmt:=top 55
abbrev kR:Stmt:=top 56
abbrev jg:Stmt:=top 57
abbrev s_row:Stmt:=top 58
abbrev mR:Stmt:=top 59
abbrev cX:Stmt:=top 60
abbrev zQ:Stmt:=top 61
abbrev HG:Stmt:=top 62
abbrev uJ:Stmt:=top 63
abbrev zR:Stmt:=top 64
abbrev kS:Stmt:=top 65
structure MgA (mg:Str→Option Value):Prop where
 int:mg "int" = none
def HH (ts:List T) (q:Rt→Prop):Prop:=∃ i:Int,ts=[.int i]∧q (.vw (.int (cv i)))
def WA (ts:List T) (q:Rt→Prop):Prop:=∃ x y op,ts=[.int x,.str op,.int y]∧op∈reckon∧RI x∧RI y∧q (.vw (oI (t7 op x y)))
theorem HI {i:Int} (h:RI i):lH i:=l_.RI.big h
section
variable {P:Program} {w:World} {K:KFr} {mg:Str→Option Value} {base:Heap}
abbrev Bh:List Str:=["_law_number_here"]
theorem pk:aC Bh ["_law_number_here"] (ah mR):=L2.gj
theorem zj {f:Addr} {fd:FuncData} (D:Df K mg "_law_fit" mR ["_law_number_here"] f fd):cy P w K mg base "_law_fit" ["_law_number_here"] 1 (cT K 1 HH):=by
 refine D.gJ (kj D.F pk rfl fun bu A outer s H E Ox hr ts q hG=>?_)
 have nd:=pk.nd
 refine ⟨_,(ar (aJ (VP.vx (jM (VP.vr (bx (VP.vr (cu (aa 0) (VP.vr (tJ (VP.vr af) (VP.vr af))))) (VP.vr (nL (VP.vr af) (VP.vr (tJ (VP.vr af) (VP.vr af))))))) (VP.vr (tJ (VP.vr af) (VP.vr af))))))),fun _=>?_⟩
 obtain ⟨i,rfl,hq⟩:=hG
 refine ⟨pw 30,pw 30,⟨bg 2,Wb⟩,by decide +kernel,pw 30,?_⟩
 show q (.vw (.int ((i+10 ^ (30:Int).toNat) % (2 * 10 ^ (30:Int).toNat) - 10 ^ (30:Int).toNat)))
 rw [Gen.Gi]
 exact hq
abbrev gZ:List Str:=["_law_one","_law_word","_law_other"]
theorem ez:aC gZ ["_law_one","_law_word","_law_other"] (ah cX):=L2.gj
theorem iK {f:Addr} {fd:FuncData} (D:Df K mg "_law_reckoned" cX ["_law_one","_law_word","_law_other"] f fd) (M:MgA mg) (pq:cy P w K mg base "_law_fit" ["_law_number_here"] 1 (cT K 1 HH)):cy P w K mg base "_law_reckoned" ["_law_one","_law_word","_law_other"] 2 (cT K 3 WA):=by
 obtain ⟨G9,zk,iL,iM,iN,iO⟩:=pq
 refine D.gJ (kj D.F ez rfl fun bu A outer s H E Ox hr ts q hG=>?_)
 have nd:=ez.nd
 have hu:=bz.gx hr
 refine ⟨_,(aj (bE (cp hu (aa 1) (VP.vr aM))
    (ar (aJ (VP.vx (aV iO (hr.mono (by decide)) (by rfl) iL iM iN (ae (VP.ve (cu (aa 0) (aa 2))) ak)))))
    aO)
   (aj (bE (cp hu (aa 1) (VP.vr aM))
     (ar (aJ (VP.vx (aV iO (hr.mono (by decide)) (by rfl) iL iM iN (ae (VP.ve (jM (aa 0) (aa 2))) ak)))))
     aO)
   (aj (bE (cp hu (aa 1) (VP.vr aM))
     (ar (aJ (VP.vx (aV iO (hr.mono (by decide)) (by rfl) iL iM iN (ae (VP.ve (nL (aa 0) (aa 2))) ak)))))
     aO)
   (aj (bE (cp hu (aa 1) (VP.vr aM))
     (ar (aJ (VP.vx (cK rp oK (by rfl) M.int E3 (aE (VP.vr (UC (aa 0) (aa 2))) aQ)))))
     aO)
   (aj (bE (cp hu (aa 1) (VP.vr aM))
     (ar (aJ (VP.vx (cK rp oK (by rfl) M.int E3 (aE (VP.vr (M9 hu (aa 0) (aa 2))) aQ)))))
     aO)
   (aj (bE (cp hu (aa 2) (VP.vr af))
     (ar (aJ (VP.vx cQ)))
     aO)
   (ar (aJ (VP.vx (kb (cp hu (aa 1) (VP.vr aM)) (aV iO (hr.mono (by decide)) (by rfl) iL iM iN (ae (VP.ve (vX (aa 0) (aa 2))) ak)) (aV iO (hr.mono (by decide)) (by rfl) iL iM iN (ae (VP.ve (AU (aa 0) (aa 2))) ak)))))))))))),fun _=>?_⟩
 obtain ⟨x,y,op,rfl,ho,hx,hy,hq⟩:=hG
 unfold reckon at ho
 simp only [cY,gK,or_false] at ho
 rcases ho with rfl | rfl | rfl | rfl | rfl | rfl | rfl
 · exact ⟨rfl,_,rfl,hq⟩
 · exact ⟨rfl,_,rfl,hq⟩
 · exact ⟨⟨HI hx,HI hy⟩,rfl,_,rfl,hq⟩
 · refine jt (fun h=>?_) (fun h=>?_)
   · have h':y=0:=h
     have e:t7 "over" x y=none:=by show (if y=0 then none else some (cv (x.fdiv y)))=_; rw [if_pos h']
     rw [e] at hq
     exact hq
   · have h':¬ y=0:=h
     have e:t7 "over" x y=some (cv (x.fdiv y)):=by show (if y=0 then none else some (cv (x.fdiv y)))=_; rw [if_neg h']
     rw [e] at hq
     exact ⟨⟨h',HI hy⟩,rfl,_,rfl,hq⟩
 · refine jt (fun h=>?_) (fun h=>?_)
   · have h':y=0:=h
     have e:t7 "rest" x y=none:=by show (if y=0 then none else some (cv (x.fmod y)))=_; rw [if_pos h']
     rw [e] at hq
     exact hq
   · have h':¬ y=0:=h
     have e:t7 "rest" x y=some (cv (x.fmod y)):=by show (if y=0 then none else some (cv (x.fmod y)))=_; rw [if_neg h']
     rw [e] at hq
     exact ⟨h',rfl,_,rfl,hq⟩
 · have h7:q (.vw (.int (if x < y then 1 else 0))):=hq
   show q (.vw (.int (if decide (x < y)=true then 1 else 0)))
   by_cases h:x < y
   · rw [if_pos (decide_eq_true h)]; rw [if_pos h] at h7; exact h7
   · rw [if_neg (by rw [decide_eq_false h]; exact eC)]; rw [if_neg h] at h7; exact h7
 · have h7:q (.vw (.int (if x=y then 1 else 0))):=hq
   show q (.vw (.int (if decide (x=y)=true then 1 else 0)))
   by_cases h:x=y
   · rw [if_pos (decide_eq_true h)]; rw [if_pos h] at h7; exact h7
   · rw [if_neg (by rw [decide_eq_false h]; exact eC)]; rw [if_neg h] at h7; exact h7
end
end cV
namespace cV
open PySem L2 VT Gen zM Run
open eF (Ys N7 mh xH)
structure RG (mg:Str→Option Value):Prop where
 len:mg "len" = none
 range:mg "range" = none
 tuple:mg "tuple" = none
 isinstance:mg "isinstance" = none
 str:mg "str" = none
 int:mg "int" = none
 bool:mg "bool" = none
 list:mg "list" = none
 zip:mg "zip" = none
def so (ys:List Str):Rw→Prop
 | .skip=>True
 | .put x a=>x∈ys∧wB ys a
 | .kz x a op b=>x∈ys∧wB ys a∧op∈reckon∧wB ys b
 | _=>False
def WB (ts:List T) (q:Rt→Prop):Prop:=∃ (c:Int) (ys:List Str),ts=[.int c,mh ys]∧Ys ys∧∀ r,so ys r→q (.vw (a8 r))
def N_ (ts:List T) (q:Rt→Prop):Prop:=∃ e o n,ts=[.dk e.ks e.ts,eM o]∧gd e n∧n≤1000∧q (.vw (.int (ba e o)))
section
variable {P:Program} {w:World} {K:KFr} {mg:Str→Option Value} {base:Heap}
abbrev WC:List Str:=["_law_cell","_law_names_here","_law_number_here","_law_name","_law_one","_law_word"]
theorem HJ:aC WC ["_law_cell","_law_names_here"] (ah s_row):=L2.gj
theorem RH {f:Addr} {fd:FuncData} (D:Df K mg "_law_row" s_row ["_law_cell","_law_names_here"] f fd) (M:RG mg) (mi:cy P w K mg base "_law_operand" ["_law_cell","_law_names_here"] 2 (cT K 2 xH)):cy P w K mg base "_law_row" ["_law_cell","_law_names_here"] 3 (cT K 2 WB):=by
 obtain ⟨C9,zS,jh,ji,jj,jk⟩:=mi
 refine D.gJ (kj D.F HJ rfl fun bu A outer s H E Ox hr ts q hG=>?_)
 have nd:=HJ.nd
 have hu:=bz.gx hr
 have np:∀ {i:Nat},br ⟨H,[],Ox⟩ i:=ki
 refine ⟨_,(aj (bh (i:=2) nd rfl (Or.inl rfl) (VP.vx (bx (VP.vr (lj (VP.vr (cu (VP.vr (bx (aa 0) (VP.vr (ix (VP.vr af) (VP.vr af))))) (VP.vr af))) (VP.vr af))) (VP.vr af))) np)
   (aj (bh (i:=3) nd rfl (Or.inl rfl) (VP.vx (aH (aa 1) (VP.vr (bx (VP.vr (cn (aa 2) (VP.vr af))) (VP.vr (bq bc bf (by rfl) M.len rh (aE (aa 1) aQ))))))) np)
   (aj (bh (i:=4) nd rfl (Or.inl rfl) (VP.vx (aV jk (hr.mono (by decide)) (by rfl) jh ji jj (ae (VP.ve (cn (aa 2) (VP.vr af))) (ae (aq 1) ak)))) np)
   (aj (bE (cp hu (VP.vr (bx (aa 2) (VP.vr af))) (VP.vr af))
     (ar (aJ (VP.vx (bp (ae (VP.ve aM) ak)))))
     aO)
   (aj (bE (vK (VP.vr (bx (aa 2) (VP.vr af))) (VP.vr af))
     (ar (aJ (VP.vx (bp (ae (VP.ve aM) (ae (aq 3) (ae (aq 4) ak)))))))
     aO)
   (aj (bh (i:=5) nd rfl (Or.inl rfl) (VP.vx (aH (VP.vr (cz (ae (VP.ve aM) (ae (VP.ve aM) (ae (VP.ve aM) (ae (VP.ve aM) (ae (VP.ve aM) (ae (VP.ve aM) (ae (VP.ve aM) ak))))))))) (VP.vr (bx (VP.vr (cn (aa 2) (VP.vr af))) (VP.vr af))))) np)
   (ar (aJ (VP.vx (bp (ae (VP.ve aM) (ae (aq 3) (ae (aq 4) (ae (aq 5) (ae (VP.ve (aV jk (hr.mono (by decide)) (by rfl) jh ji jj (ae (VP.ve (cn (aa 2) (VP.vr af))) (ae (aq 1) ak)))) ak))))))))))))))),fun _=>?_⟩
 obtain ⟨c,ys,rfl,Y,hq⟩:=hG
 refine ⟨⟨by decide,by decide,by decide⟩,by decide +kernel,.inr ⟨by decide,by decide⟩,by decide,?_⟩
 generalize hn:(c % (10:Int) ^ (9:Int).toNat+3) * 48271 % 2147483647=n
 have R:N7 n:=⟨by rw [← hn]; exact qf _ (by decide),by have:=qi ((c % (10:Int) ^ (9:Int).toNat+3) * 48271) (show (0:Int) < 2147483647 by decide); rw [hn] at this; omega⟩
 obtain ⟨y,hy,ey⟩:=Y.at (n / 8)
 refine ⟨⟨by decide,by decide⟩,Y.pos,_,ey,⟨by decide,by decide⟩,rfl,_,_,rfl,R.div (by decide),Y,fun o ho=>?_⟩
 refine ⟨by decide,jt (fun _=>?_) (fun _=>?_)⟩
 · exact ⟨cf (by simp),hq .skip trivial⟩
 refine ⟨by decide,jt (fun _=>?_) (fun _=>?_)⟩
 · exact ⟨cf (by simp),hq (.put y o) ⟨hy,ho⟩⟩
 have h0:0≤n / 56 % 7:=qf _ (by decide)
 have h1:n / 56 % 7 < 7:=qi _ (by decide)
 obtain ⟨j,hj⟩:=DU h0
 obtain ⟨op,hop,eop⟩:∃ op∈reckon,kY (reckon.map T.str) (n / 56 % 7)=some (.str op):=by
  rw [hj]
  have hj7:j < reckon.length:=by show j < 7; omega
  exact ⟨reckon[j],Oj hj7,ai (by rw [i4,qe hj7]; rfl)⟩
 refine ⟨cf (by simp),⟨by decide,by decide⟩,by decide,_,eop,⟨by decide,by decide⟩,rfl,_,_,rfl,R.div (by decide),Y,fun o2 DK=>?_⟩
 exact ⟨cf (by simp),hq (.kz y o op o2) ⟨hy,ho,hop,DK⟩⟩
abbrev RJ:List Str:=["_law_held","_law_operand_here"]
theorem Bu:aC RJ ["_law_held","_law_operand_here"] (ah zQ):=L2.gj
theorem L4 {f:Addr} {fd:FuncData} (D:Df K mg "_law_look" zQ ["_law_held","_law_operand_here"] f fd) (M:RG mg):cy P w K mg base "_law_look" ["_law_held","_law_operand_here"] 1 (cT K 2 N_):=by
 refine D.gJ (kj D.F Bu rfl fun bu A outer s H E Ox hr ts q hG=>?_)
 have nd:=Bu.nd
 have hu:=bz.gx hr
 have qg:=v_ hu
 refine ⟨_,(aj (bE (dw (du oJ (by rfl) M.isinstance (by rfl) M.str E5 (aa 1)))
    (ar (aJ (VP.vx (Fy qg (aa 0) (aa 1) (VP.ve af) ⟨rfl,rfl,rfl,rfl⟩))))
    aO)
   (ar (aJ (VP.vx (VE.vp (aq 1)))))),fun _=>?_⟩
 obtain ⟨e,o,n,rfl,he,hn,hq⟩:=hG
 cases o with
 | nm x =>
   refine ⟨rfl,?_⟩
   show q (.vw ((bY e.ks e.ts (.inr x)).getD (.int 0)))
   rw [Gw]
   exact hq
 | nu i=>exact ⟨rfl,hq⟩
end
end cV
namespace cV
open PySem L2 VT Gen zM Run Lay
def WD (ts:List T) (q:Rt→Prop):Prop:=∃ (rs:List Rw) (a:Nat) (f:Str) (ps:List Str) (ins:List Int),ts=[.lst (rs.map a8),.int (a:Int),.lst (ins.map .int)]∧rs[a]?=some (.df f ps)∧(∀ k r,a < k→rs[k]?=some r→u_ r∧yX r=false)∧ps.Nodup∧ps.length≤4∧rs.length≤100∧ins.length≤100 ∧
 q (.vw (resT (bK 1000 (rs.drop a) a (bo ps (ins.map cv) ps.length) [])))
def HK (rs:List Rw) (a:Nat) (ins:List Int) (gv:List Int) (e:Ev) (dn:List T) (b5 b6 b8 b9 IT IU:Option (T×Bool)):En:=[some (.lst (rs.map a8),false),some (.int (a:Int),false),some (.lst (ins.map .int),false),some (.dk e.ks e.ts,true),some (.lst (gv.map .int),false),b5,b6,some (.lst dn,true),b8,b9,IT,IU]
theorem WE (ins:List Int):(ins.map fun i=>T.int (cv i)) ++ (List.replicate (4:Int).toNat [(Rt.vw (T.int 0)).t]).flatten=(ins.map cv ++ [0,0,0,0]).map T.int:=by
 rw [Oq,Ap]
 rfl
theorem RL (gs:List Int) {i:Nat} (hi:i < 4):(gs ++ [0,0,0,0])[i]?=some (gs.getD i 0):=by
 rw [List.getD]
 by_cases hg:i < gs.length
 · rw [qh hg,qe hg]; rfl
 · rw [uX (by omega),IX (l:=gs) (by omega)]
   have:i - gs.length=0∨i - gs.length=1∨i - gs.length=2∨i - gs.length=3:=by omega
   rcases this with h | h | h | h <;> rw [h] <;> rfl
section
variable {P:Program} {w:World} {K:KFr} {mg:Str→Option Value} {base:Heap}
abbrev WG:List Str:=["_law_rows","_law_first","_law_inputs","_law_held","_law_given","_law_name","_law_number_here","_law_doings","_law_place","_law_row_here","_law_value","_law_pair"]
theorem HL:aC WG ["_law_rows","_law_first","_law_inputs"] (ah HG):=L2.gj
theorem C_:((["_law_rows","_law_first","_law_inputs","_law_held","_law_given","_law_name","#_law_number_here","_law_doings","_law_place","_law_row_here","_law_value","_law_pair"]:List Str) ++ (["_law_number_here"]:List Str)).Nodup:=by decide +kernel
theorem Dd:(["_law_rows","_law_first","_law_inputs","_law_held","_law_given","_law_name","#_law_number_here","_law_doings","_law_place","_law_row_here","_law_value","_law_pair"]:List Str).Nodup:=by decide +kernel
theorem RM {f:Addr} {fd:FuncData} (D:Df K mg "_law_due" HG ["_law_rows","_law_first","_law_inputs"] f fd) (M:RG mg) (pq:cy P w K mg base "_law_fit" ["_law_number_here"] 1 (cT K 1 HH)) (RN:cy P w K mg base "_law_look" ["_law_held","_law_operand_here"] 1 (cT K 2 N_)) (jX:cy P w K mg base "_law_reckoned" ["_law_one","_law_word","_law_other"] 2 (cT K 3 WA)):cy P w K mg base "_law_due" ["_law_rows","_law_first","_law_inputs"] 3 (cT K 3 WD):=by
 obtain ⟨G9,zk,iL,iM,iN,iO⟩:=pq
 obtain ⟨f_look,Yz,uK,uL,uM,uN⟩:=RN
 obtain ⟨zp,xi,jY,jZ,j1,j2⟩:=jX
 refine D.gJ (kj D.F HL rfl fun bu A outer s H E Ox hr ts q hG=>?_)
 have nd:=HL.nd
 have hu:=bz.gx hr
 have np:∀ {i:Nat},br ⟨H,[],Ox⟩ i:=ki
 have S_:∀ {is:List Nat},∀ i∈is,br ⟨H,[],Ox⟩ i:=fun i _=>ki
 have qg:=v_ hu
 refine ⟨_,(aj (dR (i:=3) nd rfl (Or.inl rfl) (VP.vx tS) np)
   (aj (tV 6 "#_law_number_here" np (bh (i:=4) Dd rfl (Or.inl rfl) (VP.vx (cu (VP.vr (fO (ts:=["_law_number_here"]) rfl (by rfl) (eU (aq 2)) (fun _ _ _ _ _ _=>(bB (i:=12) C_ rfl (Or.inl rfl) np)) (fun _ _ _ _ _ _=>eI) (fun _ _ _ _ _ _=>(VP.ve (aV iO (hr.mono (by decide)) (by rfl) iL iM iN (ae (aq 12) ak)))))) (VP.vr (jO (cz (ae (VP.ve af) ak)) (VP.vr af))))) np))
   (aj (gb DX rfl (P8 (by rfl) M.zip (VP.ve (aH (VP.vr (aH (aa 0) (aa 1))) (VP.vr af))) (aq 4)) (sV (n:=2) rfl (d9 (bB (i:=5) nd rfl (Or.inl rfl) np) (d9 (bB (i:=6) nd rfl (Or.inl rfl) np) nI)))
     (ar (nN 3 qg (aq 6) (aa 5))))
   (aj (dR (i:=7) nd rfl (Or.inl rfl) (VP.vx (cz (ae (VP.ve (bp (ae (aq 1) (ae (VP.ve (cK fU iy (by rfl) M.tuple fP (aE (VP.vr (eS (aa 4) i9 (fK (VP.vr (bq bc bf (by rfl) M.len rh (aE (VP.vr (aH (VP.vr (aH (aa 0) (aa 1))) (VP.vr af))) aQ)))))) aQ))) (ae (VP.ve cQ) ak))))) ak))) np)
   (aj (gb DX rfl (B4 (by rfl) M.range (VP.vr (cu (aa 1) (VP.vr af))) (VP.vr (bq bc bf (by rfl) M.len rh (aE (aa 0) aQ)))) (bB (i:=8) nd rfl (Or.inl rfl) np)
     (aj (bh (i:=9) nd rfl (Or.inl rfl) (VP.vx (aH (aa 0) (aa 8))) np)
     (aj (bE (cp hu (VP.vr (aH (aa 9) (VP.vr af))) (VP.vr aM))
       (aj (bh (i:=10) nd rfl (Or.inl rfl) (VP.vx (kf uN (hr.mono (by decide)) (by rfl) uK uL uM (aE (aa 3) (aE (VP.vr (aH (aa 9) (VP.vr af))) aQ)))) np)
       (ar (aJ (VP.vx (bp (ae (VP.ve (cu (aa 7) (VP.vr (cz (ae (VP.ve (bp (ae (aq 8) (ae (VP.ve (bp (ae (aq 10) ak))) (ae (aq 10) ak))))) ak))))) (ae (VP.ve (bp (ae (VP.ve aM) (ae (aq 10) ak)))) ak)))))))
       aO)
     (aj (bE (cp hu (VP.vr (aH (aa 9) (VP.vr af))) (VP.vr aM))
       (aj (nN 3 qg (VP.ve (kf uN (hr.mono (by decide)) (by rfl) uK uL uM (aE (aa 3) (aE (VP.vr (aH (aa 9) (VP.vr af))) aQ)))) (VP.vr (aH (aa 9) (VP.vr af))))
       (ar (fM (rJ 7 Mt Mu cZ dS (ae (VP.ve (bp (ae (aq 8) (ae (VP.ve (bp (ae (VP.ve (Fx qg (aa 3) (VP.vr (aH (aa 9) (VP.vr af))))) ak))) (ae (VP.ve (Fx qg (aa 3) (VP.vr (aH (aa 9) (VP.vr af))))) ak))))) ak)))))
       aO)
     (ar (bE (cp hu (VP.vr (aH (aa 9) (VP.vr af))) (VP.vr aM))
       (aj (bh (i:=11) nd rfl (Or.inl rfl) (VP.vx (bp (ae (VP.ve (kf uN (hr.mono (by decide)) (by rfl) uK uL uM (aE (aa 3) (aE (VP.vr (aH (aa 9) (VP.vr af))) aQ)))) (ae (VP.ve (kf uN (hr.mono (by decide)) (by rfl) uK uL uM (aE (aa 3) (aE (VP.vr (aH (aa 9) (VP.vr af))) aQ)))) ak)))) np)
       (aj (bh (i:=10) nd rfl (Or.inl rfl) (VP.vx (aV j2 (hr.mono (by decide)) (by rfl) jY jZ j1 (ae (VP.ve (aH (aa 11) (VP.vr af))) (ae (VP.ve (aH (aa 9) (VP.vr af))) (ae (VP.ve (aH (aa 11) (VP.vr af))) ak))))) np)
       (aj (fM (rJ 7 Mt Mu cZ dS (ae (VP.ve (bp (ae (aq 8) (ae (aq 11) (ae (aq 10) ak))))) ak)))
       (aj (bE (vV (aa 10) (VP.vr cQ))
         (nH [7] (ar (aJ (VP.vx (bp (ae (aq 7) (ae (VP.ve (bp (ae (VP.ve aM) (ae (VP.ve aM) ak)))) ak)))))) S_)
         aO)
       (ar (nN 3 qg (aq 10) (VP.vr (aH (aa 9) (VP.vr af)))))))))
       aO))))))
   (nH [7] (ar (aJ (VP.vx (bp (ae (aq 7) (ae (VP.ve (bp (ae (VP.ve aM) (ae (VP.ve af) ak)))) ak)))))) S_)))))),fun _=>?_⟩
 obtain ⟨rs,a,f',ps,ins,rfl,hd,hb,hnd,h4,hn,Bt,hq⟩:=hG
 have hra:kY (rs.map a8) (a:Int)=some (a8 (.df f' ps)):=o8 hd
 refine ⟨rfl,by rw [cU]; exact cf (by omega),?_⟩
 refine dX (f:=T.int) (u:=fun i=>.int (cv i)) (fun i _ k hk=>⟨rfl,i,rfl,hk⟩) ?_
 refine ⟨cf (by simp),by decide,by decide,cf (by decide),?_⟩
 refine ⟨by rw [cU]; show ins.length+4≤sizeLine; exact cf (by omega),?_⟩
 refine ⟨_,hra,_,ai (j:=2) rfl,?_⟩
 show mK (tM (ps.map T.str) ((ins.map fun i=>T.int (cv i)) ++ (List.replicate (4:Int).toNat [(Rt.vw (T.int 0)).t]).flatten)) _ _ _ [some (.lst (rs.map a8),false),some (.int (a:Int),false),some (.lst (ins.map .int),false),some (.dk [] [],true),some (.lst ((ins.map fun i=>T.int (cv i)) ++ (List.replicate (4:Int).toNat [(Rt.vw (T.int 0)).t]).flatten),false),none,none,none,none,none,none,none]
 rw [WE]
 generalize egs:ins.map cv=gs at hq ⊢
 have hgl:gs.length≤100:=by rw [← egs,cU]; exact Bt
 have hgr:∀ g∈gs,RI g:=fun g hg=>by rw [← egs] at hg; obtain ⟨i,_,rfl⟩:=vd.mp hg; exact t5 i
 have zl:(tM (ps.map T.str) ((gs ++ [0,0,0,0]).map T.int)).length=ps.length:=by
  unfold tM
  rw [XF,cU,cU,uY]
  show min ps.length (gs.length+4)=_
  omega
 refine ⟨fun i ρ=>∃ b5 b6,ρ=[some (.lst (rs.map a8),false),some (.int (a:Int),false),some (.lst (ins.map .int),false),some (.dk (bo ps gs i).ks (bo ps gs i).ts,true),some (.lst ((gs ++ [0,0,0,0]).map .int),false),b5,b6,none,none,none,none,none],⟨none,none,rfl⟩,?_,?_⟩
 · rintro i t ρ ht ⟨b5,b6,rfl⟩
   have hi:i < ps.length:=by rw [← zl]; exact (fG.mp ht).1
   obtain ⟨x,hx⟩:∃ x,ps[i]?=some x:=⟨_,qe hi⟩
   have et:t = .tup [.str x,.int (gs.getD i 0)]:=by
    unfold tM at ht
    rw [List.getElem?_zipWith,i4,i4,hx,RL gs (by omega)] at ht
    exact (Option.some.inj ht).symm
   subst et
   have es:bo ps gs (i+1)=(bo ps gs i).put x (gs.getD i 0):=by simp only [bo,hx]
   have hl:((bo ps gs i).ts).length < 16777216:=by
    have:=o_ ps gs i
    unfold Ev.ts; rw [cU]; omega
   refine ⟨rfl,rfl,hl,?_⟩
   show ∃ b5 b6,(_:En)=[some (.lst (rs.map a8),false),some (.int (a:Int),false),some (.lst (ins.map .int),false),some (.dk (bo ps gs (i+1)).ks (bo ps gs (i+1)).ts,true),some (.lst ((gs ++ [0,0,0,0]).map .int),false),b5,b6,none,none,none,none,none]
   rw [es,← jR]
   exact ⟨_,_,rfl⟩
 · rintro ρ ⟨b5,b6,rfl⟩
   rw [zl]
   have ec:f_ ((gs ++ [0,0,0,0]).map T.int) none (some (((ps.map T.str).length:Nat):Int))=ps.map fun x=>T.int ((bo ps gs ps.length).get x):=by
    rw [cU,eF.pO T.int (gs ++ [0,0,0,0]) ps.length (by rw [uY]; show ps.length≤gs.length+4; omega),Hn hnd gs h4]
   generalize hR:bK 1000 (rs.drop a) a (bo ps gs ps.length) []=R at hq
   have hR1:bK 1000 (rs.drop (a+1)) (a+1) (bo ps gs ps.length) [Gy a (bo ps gs ps.length) ps]=R:=by
    rw [uG hd] at hR
    simpa [bK] using hR
   have ok0:=ub ps gs hgr ps.length
   have L0:=zI ps gs ps.length
   generalize bo ps gs ps.length=e0 at ec hR1 ok0 L0 ⊢
   refine ⟨_,hra,_,ai (j:=2) rfl,cf (by simp),cf (by simp),?_⟩
   have ha:=(fG.mp hd).1
   refine ⟨⟨by omega,by omega,by rw [cU]; omega,by rw [cU]; omega⟩,?_⟩
   show mK _ _ _ _ [some (.lst (rs.map a8),false),some (.int (a:Int),false),some (.lst (ins.map .int),false),some (.dk e0.ks e0.ts,true),some (.lst ((gs ++ [0,0,0,0]).map .int),false),b5,b6,some (.lst [.tup [.int (a:Int),.tup (f_ ((gs ++ [0,0,0,0]).map T.int) none (some (((ps.map T.str).length:Nat):Int))),.aT]],true),none,none,none,none]
   rw [ec]
   refine oM (fun i ρ=>∃ e dn n b8 b9 IT IU,ρ=HK rs a ins (gs ++ [0,0,0,0]) e dn b5 b6 b8 b9 IT IU∧e.L∧gd e n∧n≤4+i∧dn.length≤1+i∧bK 1000 (rs.drop (a+1+i)) (a+1+i) e dn=R) ⟨e0,_,ps.length,none,none,none,none,rfl,L0,ok0,by omega,by simp,hR1⟩ ?_ ?_
   · rintro i ρ hi ⟨e,dn,n,b8,b9,IT,IU,rfl,Le,DT,eK,Hk,Bv⟩
     have Uu:a+1+i < rs.length:=by
      have:(i:Int) < ((rs.map a8).length:Int) - ((a:Int)+1):=by omega
      rw [cU] at this
      omega
     have ep:(a:Int)+1+(i:Int)=((a+1+i:Nat):Int):=by push_cast; rfl
     obtain ⟨r,dY⟩:∃ r,rs[a+1+i]?=some r:=⟨_,qe Uu⟩
     obtain ⟨N5,Ui⟩:=hb _ r (by omega) dY
     rw [uG dY] at Bv
     have il:e.ts.length < 16777216:=by have:=DT.n; unfold Ev.ts; rw [cU]; omega
     have hd1:¬ 1000≤dn.length:=by omega
     rw [ep]
     have nxt:∀ e' Ho n' b8 b9 IT IU,e'.L→gd e' n'→n'≤4+(i+1)→Ho.length≤1+(i+1)→bK 1000 (rs.drop (a+1+i+1)) (a+1+i+1) e' Ho=R→∃ e dn n b8' b9' acO acP,HK rs a ins (gs ++ [0,0,0,0]) e' Ho b5 b6 b8 b9 IT IU=HK rs a ins (gs ++ [0,0,0,0]) e dn b5 b6 b8' b9' acO acP∧e.L∧gd e n∧n≤4+(i+1)∧dn.length≤1+(i+1)∧bK 1000 (rs.drop (a+1+(i+1))) (a+1+(i+1)) e dn=R:=fun e' Ho n' b8 b9 IT IU h1 h2 h3 h4 h5=>⟨e',Ho,n',b8,b9,IT,IU,rfl,h1,h2,h3,h4,h5⟩
     have L5:=o8 dY
     cases r with
     | skip =>
       refine ⟨_,L5,_,ai (j:=0) rfl,_,ai (j:=0) rfl,_,ai (j:=0) rfl,?_⟩
       exact nxt e dn n _ _ _ _ Le DT (by omega) (by omega) Bv
     | put x o =>
       have hv:=DT.look N5
       simp only [bK,if_neg hd1] at Bv
       refine ⟨_,L5,_,ai (j:=0) rfl,_,ai (j:=0) rfl,_,ai (j:=2) rfl,rfl,e,o,n,rfl,DT,by omega,rfl,_,ai (j:=1) rfl,il,?_⟩
       have hg:=Le.acJ x (ba e o)
       rw [← jR] at hg
       refine ⟨_,ai (j:=1) rfl,_,hg,cf (by simp),_,ai (j:=1) rfl,_,hg,cf (by simp),cf (by omega),_,ai (j:=0) rfl,?_⟩
       exact ⟨e.put x (ba e o),dn ++ [CH (a+1+i) (ba e o)],n+1,some (.int ((a+1+i:Nat):Int),false),some (a8 (.put x o),false),IT,IU,by unfold HK; rw [← jR]; rfl,Le.put _ _,DT.put x hv,by omega,by simp; omega,Bv⟩
     | kz x o op o2 =>
       have hv:=DT.look N5.1
       have hv2:=DT.look N5.2.2
       simp only [bK,if_neg hd1] at Bv
       refine ⟨_,L5,_,ai (j:=0) rfl,_,ai (j:=0) rfl,_,ai (j:=0) rfl,_,ai (j:=2) rfl,rfl,e,o,n,rfl,DT,by omega,rfl,_,ai (j:=4) rfl,rfl,e,o2,n,rfl,DT,by omega,rfl,cf (by simp),?_⟩
       refine ⟨_,ai (j:=0) rfl,_,ai (j:=3) rfl,_,ai (j:=1) rfl,rfl,_,_,op,rfl,N5.2.1,hv,hv2,?_⟩
       refine ⟨cf (by simp),cf (by omega),?_⟩
       cases hk:t7 op (ba e o) (ba e o2) with
       | none =>
         rw [hk] at Bv
         rw [← Bv] at hq
         exact ⟨cf (by simp),cf (by simp),hq⟩
       | some v =>
         rw [hk] at Bv
         refine ⟨_,ai (j:=1) rfl,il,?_⟩
         exact ⟨e.put x v,dn ++ [CI (a+1+i) (ba e o) (ba e o2) (some v)],n+1,some (.int ((a+1+i:Nat):Int),false),some (a8 (.kz x o op o2),false),some (.int v,false),some (.tup [.int (ba e o),.int (ba e o2)],false),by unfold HK; rw [← jR]; rfl,Le.put _ _,DT.put x (Gx hk),by omega,by simp; omega,Bv⟩
     | give o =>
       simp only [bK,if_neg hd1] at Bv
       refine ⟨_,L5,_,ai (j:=0) rfl,_,ai (j:=1) rfl,rfl,e,o,n,rfl,DT,by omega,rfl,?_⟩
       rw [← Bv] at hq
       exact ⟨cf (by simp),cf (by simp),cf (by simp),cf (by simp; omega),cf (by simp),cf (by simp),hq⟩
     | df _ _=>cases Ui
     | _=>exact N5.elim
   · rintro ρ ⟨e,dn,n,b8,b9,IT,IU,rfl,Le,DT,eK,Hk,Bv⟩
     have e0':a+1+(((rs.map a8).length:Int) - ((a:Int)+1)).toNat=rs.length:=by rw [cU]; omega
     rw [e0',List.drop_length] at Bv
     rw [← Bv] at hq
     exact ⟨cf (by simp),cf (by simp),hq⟩
end
def zT (ts:List T) (q:Rt→Prop):Prop:=∃ R:Res,ts=[resT R]∧(∀ t∈R.1,pM t)∧xw R.2∧q (.vw (.bl true))
theorem RO {t:T} (h:xw t):∃ s x,t = .tup [.str s,x]∧((∃ v,x = .int v)∨∃ y,x = .str y):=by
 rcases h with ⟨v,rfl⟩ | rfl | rfl
 · exact ⟨_,_,rfl,.inl ⟨v,rfl⟩⟩
 · exact ⟨_,_,rfl,.inr ⟨_,rfl⟩⟩
 · exact ⟨_,_,rfl,.inl ⟨0,rfl⟩⟩
section
variable {P:Program} {w:World} {K:KFr} {mg:Str→Option Value} {base:Heap}
abbrev L6:List Str:=["_law_told","_law_doing","_law_value"]
theorem xN:aC L6 ["_law_told"] (ah uJ):=L2.gj
theorem HM {f:Addr} {fd:FuncData} (D:Df K mg "_law_kinds" uJ ["_law_told"] f fd) (M:RG mg):cy P w K mg base "_law_kinds" ["_law_told"] 1 (cT K 1 zT):=by
 refine D.gJ (kj D.F xN rfl fun bu A outer s H E Ox hr ts q hG=>?_)
 have nd:=xN.nd
 have hu:=bz.gx hr
 have np:∀ {i:Nat},br ⟨H,[],Ox⟩ i:=ki
 refine ⟨_,(aj (bE (VW.vc (jA (eD (dw (du eW (by rfl) M.isinstance (by rfl) M.tuple fP (aa 0)))) (jA (vJ hu (VP.vr (bq bc bf (by rfl) M.len rh (aE (aa 0) aQ))) (VP.vr af)) (jA (eD (dw (du B7 (by rfl) M.isinstance (by rfl) M.list lC (VP.vr (aH (aa 0) (VP.vr af)))))) (lg (eD (dw (du eW (by rfl) M.isinstance (by rfl) M.tuple fP (VP.vr (aH (aa 0) (VP.vr af)))))))))))
    (ar (aJ (VP.vx mG)))
    aO)
   (aj (gb DX rfl (eU (VP.ve (aH (aa 0) (VP.vr af)))) (bB (i:=1) nd rfl (Or.inl rfl) np)
     (aj (bE (VW.vc (jA (eD (dw (du eW (by rfl) M.isinstance (by rfl) M.tuple fP (aa 1)))) (jA (vJ hu (VP.vr (bq bc bf (by rfl) M.len rh (aE (aa 1) aQ))) (VP.vr af)) (lg (eD (dw (du eW (by rfl) M.isinstance (by rfl) M.tuple fP (VP.vr (aH (aa 1) (VP.vr af))))))))))
       (ar (aJ (VP.vx mG)))
       aO)
     (ar (gb DX rfl (eU (VP.ve (cu (VP.vr (cz (ae (VP.ve (aH (aa 1) (VP.vr af))) (ae (VP.ve (aH (aa 1) (VP.vr af))) ak)))) (VP.vr (cK dB eT (by rfl) M.list lC (aE (VP.vr (aH (aa 1) (VP.vr af))) aQ)))))) (bB (i:=2) nd rfl (Or.inl rfl) np)
       (ar (bE (VW.vc (jA (dw (du rM (by rfl) M.isinstance (by rfl) M.bool E4 (aa 2))) (lg (VW.vc (sT (eD (dw (du EU (by rfl) M.isinstance (by rfl) M.int E3 (aa 2)))) (nG (vW (aa 2) (VP.vr cQ))))))))
         (ar (aJ (VP.vx mG)))
         aO))))))
   (ar (aJ (VP.vx (Pp (du rM (by rfl) M.isinstance (by rfl) M.bool E4 (VP.vr (aH (VP.vr (aH (aa 0) (VP.vr af))) (VP.vr af)))))))))),fun _=>?_⟩
 obtain ⟨⟨dn,en⟩,rfl,h1,h2,hq⟩:=hG
 obtain ⟨s0,x0,e0,hx0⟩:=RO h2
 have e0':en = .tup [.str s0,x0]:=e0
 subst e0'
 refine ⟨rfl,_,ai (j:=0) rfl,rfl,_,ai (j:=1) rfl,rfl,?_⟩
 refine ⟨_,ai (j:=0) rfl,?_⟩
 refine ⟨fun _ ρ=>∃ b1 b2,ρ=[some (.tup [.lst dn,.tup [.str s0,x0]],false),b1,b2],⟨none,none,rfl⟩,?_,?_⟩
 · rintro i t ρ ht ⟨b1,b2,rfl⟩
   obtain ⟨p,us,m,hl,rfl⟩:=h1 t (ik ht)
   refine ⟨rfl,_,ai (j:=1) rfl,rfl,?_⟩
   refine ⟨_,ai (j:=0) rfl,_,ai (j:=2) rfl,cf (by simp),_,ai (j:=1) rfl,?_⟩
   refine ⟨by show 2+(us.map T.int).length≤sizeLine; rw [cU]; exact cf (by omega),?_⟩
   have hv:∀ v∈([.int p,oI m] ++ us.map T.int:List T),(∃ i,v = .int i)∨v = .aT:=fun v hv=>by
    rcases cA.mp hv with z | z
    · simp only [cY,gK,or_false] at z
      rcases z with rfl | rfl
      · exact .inl ⟨p,rfl⟩
      · cases m with
        | none=>exact .inr rfl
        | some k=>exact .inl ⟨k,rfl⟩
    · obtain ⟨k,_,rfl⟩:=vd.mp z
      exact .inl ⟨k,rfl⟩
   refine ⟨fun _ ρ=>∃ b2,ρ=[some (.tup [.lst dn,.tup [.str s0,x0]],false),some (.tup [.int p,.tup (us.map T.int),oI m],false),b2],⟨b2,rfl⟩,?_,?_⟩
   · rintro k v ρ hk ⟨b2,rfl⟩
     rcases hv v (ik hk) with ⟨j,rfl⟩ | rfl
     · exact ⟨rfl,rfl,_,rfl⟩
     · exact ⟨rfl,rfl,_,rfl⟩
   · rintro ρ ⟨b2,rfl⟩
     exact ⟨_,_,rfl⟩
 · rintro ρ ⟨b1,b2,rfl⟩
   refine ⟨_,ai (j:=1) rfl,_,ai (j:=1) rfl,?_⟩
   rcases hx0 with ⟨v,rfl⟩ | ⟨y,rfl⟩
   · exact ⟨rfl,hq⟩
   · exact ⟨rfl,hq⟩
end
end cV
namespace cV
open PySem L2 VT Gen zM Run Lay K5
abbrev HN:T:=.int 200
theorem N' {tk:Tok}:RelV (.int 200) (.int 200 tk):=⟨_,rfl⟩
theorem Oa {K:KFr} {H:Hp} {A:List Addr}:At K H A HN (.int 200):=bb
def Ob (ts:List T) (q:Rt→Prop):Prop:=∃ (many:Nat) (ins:List Int) (most:Nat),ts=[.int (many:Int),.lst (ins.map .int),.int (most:Int)]∧many≤50∧ins.length≤100∧q (.vw (.bl true))
theorem pS (d:Nat):∀ n,dr d (List.replicate n Rw.skip)=some d
 | 0=>rfl
 | n+1=>by rw [Ao]; exact pS d n
theorem xO (n:Nat):K0 (List.replicate n .skip):=NK (pS 0 n)
theorem pT (n:Nat):dN (List.replicate n .skip)=none:=by
 unfold dN
 rw [List.findIdx?_eq_none_iff]
 intro r hr
 rw [(List.mem_replicate.mp hr).2]; rfl
theorem sr (n:Nat):(List.replicate n [T.tup [.str "skip"]]).flatten=(List.replicate n Rw.skip).map a8:=by
 induction n with
 | zero=>rfl
 | succ n ih=>rw [Ao,My,ih,Ao,i5]; rfl
abbrev R0:Res:=([],jF 0)
section
variable {P:Program} {w:World} {K:KFr} {mg:Str→Option Value} {base:Heap}
abbrev RP:List Str:=["_law_many","_law_inputs","_law_most","_law_rows","_law_told"]
theorem Bw:aC RP ["_law_many","_law_inputs","_law_most"] (ah zR):=L2.gj
theorem L7 {f:Addr} {fd:FuncData} (D:Df K mg "_law_bare" zR ["_law_many","_law_inputs","_law_most"] f fd) (M:RG mg) (HP:Rz P w K mg base) (uO:cy P w K mg base "_law_kinds" ["_law_told"] 1 (cT K 1 zT)):cy P w K mg base "_law_bare" ["_law_many","_law_inputs","_law_most"] 9 (cT K 3 Ob):=by
 obtain ⟨WH,RQ,RS,su,sx,By,HQ,sy⟩:=HP
 obtain ⟨L8,HR,nT,nU,nV,nW⟩:=uO
 refine D.gJ (kj D.F Bw rfl fun bu A outer s H E Ox hr ts q hG=>?_)
 have nd:=Bw.nd
 have hu:=bz.gx hr
 have np:∀ {i:Nat},br ⟨H,[],Ox⟩ i:=ki
 refine ⟨_,(aj (gb DX rfl (eU (VP.ve (cz (ae (VP.ve (cz ak)) (ae (VP.ve (jO (cz (ae (VP.ve (bp (ae (VP.ve aM) ak))) ak)) (aa 0))) ak))))) (bB (i:=3) nd rfl (Or.inl rfl) np)
    (ar (gb DX rfl (eU (VP.ve (cz (ae (VP.ve (F9.vp (gz sy (hr.mono (by decide)) (by rfl) su sx HQ (.cons N' .nil) (dts:=[HN]) (fun _ _=>az.cons Oa az.nil) (ae (aq 3) (ae (VP.ve (cK dB eT (by rfl) M.list lC (aE (aa 1) aQ))) ak))))) (ae (VP.ve (F9.vp (gz sy (hr.mono (by decide)) (by rfl) su sx By .nil (dts:=[]) (fun _ _=>az.nil) (ae (aq 3) (ae (aq 1) (ae (aq 2) ak)))))) (ae (VP.ve (F9.vp (gz sy (hr.mono (by decide)) (by rfl) su sx By .nil (dts:=[]) (fun _ _=>az.nil) (ae (aq 3) (ae (VP.ve (cz ak)) (ae (VP.ve af) ak)))))) ak)))))) (bB (i:=4) nd rfl (Or.inl rfl) np)
      (ar (bE (VW.vc (jA (eD (dw (aV nW (hr.mono (by decide)) (by rfl) nT nU nV (ae (aq 4) ak)))) (lg (vJ hu (aa 4) (VP.vr (bp (ae (VP.ve (cz ak)) (ae (VP.ve (bp (ae (VP.ve aM) (ae (VP.ve af) ak)))) ak))))))))
        (ar (aJ (VP.vx mG)))
        aO)))))
   (ar (aJ (VP.vx mG)))),fun _=>?_⟩
 obtain ⟨many,ins,most,rfl,h50,Bt,hq⟩:=hG
 refine ⟨jw _,cf (by simp),cf (by simp),by omega,by omega,by rw [xY]; show 1 * many≤sizeLine; exact cf (by omega),cf (by simp),?_⟩
 refine ⟨fun _ ρ=>∃ b3 b4,ρ=[some (.int (many:Int),false),some (.lst (ins.map .int),false),some (.int (most:Int),false),b3,b4],⟨none,none,rfl⟩,?_,?_⟩
 · rintro i t ρ ht ⟨b3,b4,rfl⟩
   obtain ⟨rs,et,B,hm,hn⟩:∃ rs:List Rw,t = .lst (rs.map a8)∧K0 rs∧dN rs=none∧rs.length≤100:=by
    have:=ik ht
    rcases cY.mp this with z | z
    · exact ⟨[],z,xO 0,pT 0,by simp⟩
    · refine ⟨List.replicate many .skip,?_,xO _,pT _,by simp; omega⟩
      rw [kZ.mp z,← sr]
      rfl
   subst et
   refine ⟨rfl,rs,ins,200,R0,rfl,B,hn,Bt,.bare hm,?_⟩
   refine ⟨rfl,rs,ins,most,R0,rfl,B,hn,Bt,.bare hm,?_⟩
   refine ⟨jw _,rfl,rs,[],0,R0,rfl,B,hn,by simp,.bare hm,cf (by simp),?_⟩
   have p0:=mf (R:=R0) (fun t ht=>nomatch ht) (.inl ⟨0,rfl⟩)
   refine ⟨fun _ ρ=>∃ b4,ρ=[some (.int (many:Int),false),some (.lst (ins.map .int),false),some (.int (most:Int),false),some (.lst (rs.map a8),false),b4],⟨b4,rfl⟩,?_,?_⟩
   · rintro k v ρ hk ⟨b4,rfl⟩
     have ev:v=resT R0:=by
      have:=ik hk
      simp only [cY,gK,or_false] at this
      rcases this with z | z | z <;> exact z
     subst ev
     refine ⟨rfl,R0,rfl,(fun t ht=>nomatch ht),.inl ⟨0,rfl⟩,?_⟩
     refine ⟨jw _,cf (by simp),cf (by simp),p0.1,p0.1,p0.2,?_⟩
     exact ⟨_,rfl⟩
   · rintro ρ ⟨b4,rfl⟩
     exact ⟨_,_,rfl⟩
 · rintro ρ ⟨b3,b4,rfl⟩
   exact hq
end
end cV
namespace cV
open PySem L2 VT Gen zM Run Lay K5
open eF (Ys N7 mh xH Hw zN)
open AG (c_)
def L9 (ts:List T) (q:Rt→Prop):Prop:=∃ ns:List Int,ts=[.lst (ns.map .int)]∧ns.length≤63∧q (.vw (.bl true))
theorem kT {x:Str} (h:c_ x=true):x.length≤8:=by
 unfold c_ at h
 simp only [my,decide_eq_true_eq] at h
 omega
theorem RT {α:Type} (f:α→T) (ns:List α) (lo hi:Option Int):∃ ms:List α,f_ (ns.map f) lo hi=ms.map f∧ms.length≤ns.length:=by
 refine ⟨(ns.drop (HT.dy (ns.map f).length 0 lo)).take (HT.dy (ns.map f).length (ns.map f).length hi - HT.dy (ns.map f).length 0 lo),?_,?_⟩
 · unfold f_
   rw [List.map_take,List.map_drop]
 · rw [Oh,XO]; omega
theorem all_rows {ys:List Str}:∀ {us:List T},(∀ t∈us,∃ r,so ys r∧t=a8 r)→∃ body:List Rw,us=body.map a8∧∀ r∈body,so ys r
 | [],_=>⟨[],rfl,fun _ z=>nomatch z⟩
 | t :: us,h=>by
   obtain ⟨r,h1,rfl⟩:=h t c6
   obtain ⟨b,rfl,h2⟩:=all_rows fun t ht=>h t (eB _ ht)
   refine ⟨r :: b,rfl,fun x hx=>?_⟩
   rcases cY.mp hx with z | z
   · rw [z]; exact h1
   · exact h2 x z
def flat (r:Rw):Prop:=bt r=⟨false,false,false,false⟩
theorem HS {ys:List Str} {r:Rw} (h:so ys r):flat r:=by cases r <;> first | rfl | exact h.elim
def dF (a c:Nat) (f:Str) (ps:List Str) (body:List Rw) (o:ju):List Rw:=List.replicate a .skip ++ (.df f ps :: (body ++ (.give o :: List.replicate c .skip)))
theorem Bz {d:Nat}:∀ {l:List Rw},(∀ r∈l,flat r)→dr d l=some d
 | [],_=>rfl
 | r :: l,h=>by
   have hr:bt r=_:=h r (by simp)
   simp only [dr,hr,Bool.false_eq_true,if_false]
   exact Bz fun r hr=>h r (eB _ hr)
theorem L_ {a:Nat} {f:Str} {ps:List Str} {body:List Rw} {o:ju} (h:∀ r∈body,flat r):K0 (dF a 0 f ps body o):=by
 refine NK ?_
 unfold dF
 rw [gW,pS]
 show dr 1 (body ++ [Rw.give o])=some 0
 rw [gW,Bz h]
 rfl
theorem HU {ys:List Str} (hy:∀ y∈ys,c_ y=true) {r:Rw} (h:so ys r):u_ r∧yX r=false:=by
 have op:∀ o,wB ys o→t6 o:=fun o ho=>by
  cases o with
  | nm x=>exact ⟨hy x ho,by have:=kT (hy x ho); omega⟩
  | nu i=>exact ho
 cases r with
 | skip=>exact ⟨trivial,rfl⟩
 | put x a=>exact ⟨op a h.2,rfl⟩
 | kz x a w b=>exact ⟨⟨op a h.2.1,h.2.2.1,op b h.2.2.2⟩,rfl⟩
 | _=>exact h.elim
theorem De (a:Nat) (fn:Str) (ps:List Str) (body:List Rw) (o:ju):dN (dF a 0 fn ps body o)=some a:=by
 unfold dN
 rw [List.findIdx?_eq_some_iff_getElem]
 have hd:(dF a 0 fn ps body o)[a]?=some (.df fn ps):=by unfold dF; rw [uX (by simp),An,Nat.sub_self]; rfl
 obtain ⟨hl,e⟩:=fG.mp hd
 refine ⟨hl,by rw [e]; rfl,fun j hj=>?_⟩
 have hp:(dF a 0 fn ps body o)[j]?=some .skip:=by unfold dF; rw [qh (by simpa using hj),BB,if_pos hj]
 obtain ⟨_,e2⟩:=fG.mp hp
 rw [e2]
 exact eC
theorem Dg (a:Nat) (fn:Str) (ps:List Str) (body:List Rw) (o:ju):∃ o' l,dF a 0 fn ps body o=l ++ [Rw.give o']:=by
 refine ⟨o,List.replicate a .skip ++ (.df fn ps :: body),?_⟩
 unfold dF
 simp
theorem HV {a:Nat} {fn:Str} {ps:List Str} {body:List Rw} {o:ju} {r:Rw} (h:r∈dF a 0 fn ps body o):r = .skip∨r = .df fn ps∨r∈body∨r = .give o:=by
 unfold dF at h
 simp only [XH,cA,cY,gK,or_false,List.mem_replicate] at h
 rcases h with ⟨_,z⟩ | z | z | z
 · exact .inl z
 · exact .inr (.inl z)
 · exact .inr (.inr (.inl z))
 · exact .inr (.inr (.inr z))
theorem L' {a:Nat} {fn:Str} {ps:List Str} {body:List Rw} {o:ju} (hb:∀ r∈body,u_ r) (ho:t6 o) (h4:ps.length≤100) (hy:∀ y∈ps,c_ y=true):∀ r∈dF a 0 fn ps body o,u_ r:=fun r hr=>by
 rcases HV hr with rfl | rfl | z | rfl
 · trivial
 · exact ⟨h4,fun x hx=>⟨hy x hx,by have:=kT (hy x hx); omega⟩⟩
 · exact hb r z
 · exact ho
theorem xP {a:Nat} {fn:Str} {ps:List Str} {body:List Rw} {o:ju} (hb:∀ r∈body,u_ r∧yX r=false) (ho:t6 o):∀ k r,a < k→(dF a 0 fn ps body o)[k]?=some r→u_ r∧yX r=false:=fun k r hk hr=>by
 unfold dF at hr
 rw [uX (by rw [An]; omega),An] at hr
 obtain ⟨j,ej⟩:∃ j,k - a=j+1:=⟨k - a - 1,by omega⟩
 rw [ej,List.getElem?_cons_succ] at hr
 rcases cA.mp (ik hr) with z | z
 · exact hb r z
 · rw [XH,kZ] at z
   rw [z]
   exact ⟨ho,rfl⟩
def HW (ns:List Int) (k:Nat):Int:=ns.getD (2+k % 4) 0 / ((k:Int)+1) % 10 ^ (40:Int).toNat - 10 ^ (39:Int).toNat
def acQ (ns:List Int):FS:=fun d ρ=>∃ (h:Int) (ys:List Str) (a:Nat) (x:Int) (fn:Str) (ps:List Str) (body:List Rw) (o:ju) (L:List T),ρ=[some (.lst (ns.map .int),false),some (.int h,false),some (mh ys,false),some (.lst L,true),some (.int x,false),none,none,none,none,none]∧x=(a:Int)∧L=(dF a 0 fn ps body o).map a8∧ns.length≤63∧0≤h∧h < 1000000000∧a≤3∧body.length≤63∧ps.Nodup∧ps.length≤4∧(∀ y∈ps,c_ y=true)∧(∀ r∈body,u_ r∧yX r=false∧flat r)∧t6 o∧d.bk=(fun _=>False)∧d.ct=(fun _=>False)∧∀ ρ',d.rt ρ' (.vw (.bl true))
section
variable {P:Program} {w:World} {K:KFr} {mg:Str→Option Value} {base:Heap}
abbrev HX:List Str:=["_law_script","_law_head","_law_names_here","_law_rows","_law_first","_law_inputs","_law_handed","_law_due_here","_law_told","_law_most"]
theorem HY:aC HX ["_law_script"] (ah kS):=L2.gj
theorem Dh:(HX ++ (["_law_cell"]:List Str)).Nodup:=by decide +kernel
theorem Di:(HX ++ (["_law_k"]:List Str)).Nodup:=by decide +kernel
theorem RU {f:Addr} {fd:FuncData} (D:Df K mg "law" kS ["_law_script"] f fd) (M:RG mg) (Dj:cy P w K mg base "_law_cell_at" ["_law_script","_law_k"] 1 (cT K 2 Hw)) (Ma:cy P w K mg base "_law_names" ["_law_cell","_law_many"] 1 (cT K 2 zN)) (mi:cy P w K mg base "_law_operand" ["_law_cell","_law_names_here"] 2 (cT K 2 xH)) (WI:cy P w K mg base "_law_row" ["_law_cell","_law_names_here"] 3 (cT K 2 WB))
  (WJ:cy P w K mg base "_law_due" ["_law_rows","_law_first","_law_inputs"] 3 (cT K 3 WD)) (HP:Rz P w K mg base) (uO:cy P w K mg base "_law_kinds" ["_law_told"] 1 (cT K 1 zT)) (RW:cy P w K mg base "_law_bare" ["_law_many","_law_inputs","_law_most"] 9 (cT K 3 Ob)):b_ P w K mg base dI 10 f fd ["_law_script"] (cT K 1 L9):=by
 obtain ⟨Ta,RX,jl,jm,jn,jo⟩:=Dj
 obtain ⟨YA,WK,Mb,Mc,Md,Me⟩:=Ma
 obtain ⟨C9,zS,jh,ji,jj,jk⟩:=mi
 obtain ⟨adn,acR,WL,WM,WN,WO⟩:=WI
 obtain ⟨ado,acS,WQ,WR,WS,WT⟩:=WJ
 obtain ⟨WH,RQ,RS,su,sx,By,HQ,sy⟩:=HP
 obtain ⟨L8,HR,nT,nU,nV,nW⟩:=uO
 obtain ⟨acT,YB,RY,RZ,R1,R3⟩:=RW
 refine kj D.F HY rfl fun bu A outer s H E Ox hr ts q hG=>?_
 obtain ⟨HZ,rfl,h63,hq⟩:=hG
 have nd:=HY.nd
 have hu:=bz.gx hr
 have np:∀ {i:Nat},br ⟨H,[],Ox⟩ i:=ki
 have S_:∀ {is:List Nat},∀ i∈is,br ⟨H,[],Ox⟩ i:=fun i _=>ki
 refine ⟨_,(aj (bh (i:=1) nd rfl (Or.inl rfl) (VP.vx (bx (VP.vr (aV jo (hr.mono (by decide)) (by rfl) jl jm jn (ae (aq 0) (ae (VP.ve af) ak)))) (VP.vr (ix (VP.vr af) (VP.vr af))))) np)
   (aj (bh (i:=2) nd rfl (Or.inr rfl) (VP.vx (aV Me (hr.mono (by decide)) (by rfl) Mb Mc Md (ae (VP.ve (aV jo (hr.mono (by decide)) (by rfl) jl jm jn (ae (aq 0) (ae (VP.ve af) ak)))) (ae (VP.ve (cu (VP.vr af) (VP.vr (bx (aa 1) (VP.vr af))))) ak)))) np)
   (aj (dR (i:=3) nd rfl (Or.inl rfl) (VP.vx (jO (cz (ae (VP.ve (bp (ae (VP.ve aM) ak))) ak)) (VP.vr (lj (VP.vr (bx (VP.vr (cn (aa 1) (VP.vr af))) (VP.vr af))) (VP.vr (bx (VP.vr (cn (aa 1) (VP.vr af))) (VP.vr af))))))) np)
   (aj (bh (i:=4) nd rfl (Or.inl rfl) (VP.vx (bq bc bf (by rfl) M.len rh (aE (aa 3) aQ))) np)
   (aj (fM (rJ 3 Mt Mu cZ dS (ae (VP.ve (bp (ae (VP.ve aM) (ae (VP.ve (aH (aa 2) (VP.vr (ll (VP.vr af))))) (ae (VP.ve (cK fU iy (by rfl) M.tuple fP (aE (VP.vr (eS (aa 2) i9 (fK (VP.vr (bx (VP.vr (bx (VP.vr (cn (aa 1) (VP.vr af))) (VP.vr (cu (VP.vr (bq bc bf (by rfl) M.len rh (aE (aa 2) aQ))) (VP.vr af))))) (VP.vr af)))))) aQ))) ak))))) ak)))
   (aj (dR (i:=3) nd rfl (Or.inl rfl) (VP.vx (cu (aa 3) (VP.vr (fO (ts:=["_law_cell"]) rfl (by rfl) (eU (VP.ve (eS (aa 0) (fK (VP.vr af)) (fK (VP.vr af))))) (fun _ _ _ _ _ _=>(bB (i:=10) Dh rfl (Or.inl rfl) np)) (fun _ _ _ _ _ _=>eI) (fun _ _ _ _ _ _=>(VP.ve (aV WO (hr.mono (by decide)) (by rfl) WL WM WN (ae (aq 10) (ae (aq 2) ak))))))))) np)
   (aj (fM (rJ 3 Mt Mu cZ dS (ae (VP.ve (bp (ae (VP.ve aM) (ae (VP.ve (aV jk (hr.mono (by decide)) (by rfl) jh ji jj (ae (VP.ve (cn (aa 1) (VP.vr af))) (ae (aq 2) ak)))) ak)))) ak)))
   (m8.weak (u:=(acQ HZ)) (aj (AO (i:=5) (ts:=["_law_k"]) nd rfl (Or.inl rfl) rfl (by rfl) (i_ (by rfl) M.range (VP.vr (bx (VP.vr (cn (aa 1) (VP.vr af))) (VP.vr af)))) (fun _ _ _ _ _ _=>(bB (i:=10) Di rfl (Or.inl rfl) np)) (fun _ _ _ _ _ _=>eI) (fun _ _ _ _ _ _=>(VP.ve (jM (VP.vr (bx (VP.vr (cn (VP.vr (aV jo (hr.mono (by decide)) (by rfl) jl jm jn (ae (aq 0) (ae (VP.ve (cu (VP.vr af) (VP.vr (bx (aa 10) (VP.vr af))))) ak)))) (VP.vr (cu (aa 10) (VP.vr af))))) (VP.vr (ix (VP.vr af) (VP.vr af))))) (VP.vr (ix (VP.vr af) (VP.vr af)))))) np)
   (aj (bh (i:=6) nd rfl (Or.inl rfl) (VP.vx (cz (ae (VP.ve (cK dB eT (by rfl) M.list lC (aE (aa 3) aQ))) (ae (VP.ve (cK dB eT (by rfl) M.list lC (aE (aa 5) aQ))) ak)))) np)
   (nH [3] (aj (bh (i:=7) nd rfl (Or.inl rfl) (VP.vx (aV WT (hr.mono (by decide)) (by rfl) WQ WR WS (ae (aq 3) (ae (aq 4) (ae (aq 5) ak))))) np)
   (Gb (i:=8) rfl nd rfl (Or.inl rfl) (gz sy (hr.mono (by decide)) (by rfl) su sx HQ (.cons N' .nil) (dts:=[HN]) (fun _ _=>az.cons Oa az.nil) (ae (VP.ve (aH (aa 6) (VP.vr af))) (ae (VP.ve (aH (aa 6) (VP.vr af))) ak))) (VW.vc (jA (eD (dw (aV nW (hr.mono (by decide)) (by rfl) nT nU nV (ae (aq 8) ak)))) (jA (vJ hu (aa 8) (aa 7)) (lg (vJ hu (aa 6) (VP.vr (cz (ae (aq 3) (ae (aq 5) ak))))))))) (ar (aJ (VP.vx mG)))
   (o4 rfl (fun _ _=>(bh (i:=9) nd rfl (Or.inl rfl) (VP.vx (bx (VP.vr (aV jo (hr.mono (by decide)) (by rfl) jl jm jn (ae (aq 0) (ae (VP.ve af) ak)))) (VP.vr af))) ki))
   (o4 rfl (fun _ _=>(bE (eD (dw (aV R3 (hr.mono (by decide)) (by rfl) RY RZ R1 (ae (VP.ve (cu (VP.vr af) (VP.vr (bx (aa 1) (VP.vr af))))) (ae (aq 5) (ae (aq 9) ak))))))
     (ar (aJ (VP.vx mG)))
     aO))
   (o4 rfl (fun _ _=>(bE (vK (aa 9) (VP.vr (bq bc bf (by rfl) M.len rh (aE (VP.vr (aH (aa 7) (VP.vr af))) aQ))))
     (ar (bh (i:=7) nd rfl (Or.inl rfl) (VP.vx (bp (ae (VP.ve (eS (VP.vr (aH (aa 7) (VP.vr af))) i9 (fK (aa 9)))) (ae (VP.ve (bp (ae (VP.ve aM) (ae (VP.ve af) ak)))) ak)))) ki))
     aO))
   (Cv rfl rfl (Or.inl rfl) (aj (bh (i:=8) nd rfl (Or.inl rfl) (VP.vx (F9.vp (gz sy (hr.mono (by decide)) (by rfl) su sx By .nil (dts:=[]) (fun _ _=>az.nil) (ae (VP.ve (aH (aa 6) (VP.vr af))) (ae (VP.ve (aH (aa 6) (VP.vr af))) (ae (aq 9) ak)))))) np)
   (ar (aJ (VP.vx (yC (aV nW (hr.mono (by decide)) (by rfl) nT nU nV (ae (aq 8) ak)) (EH (M9 hu (aa 8) (aa 7)))))))))))))) S_))) ?w1)))))))),fun _=>?main⟩
 case w1 =>
  rintro d ρ ⟨h,ys,a,x,fn,ps,body,o,L,rfl,rfl,rfl,h63,h0,h1,ha,SK,hnd,h4,hnm,cb,ho,hbk,hct,fin⟩
  have B:K0 (dF a 0 fn ps body o):=L_ fun r hr=>(cb r hr).2.2
  have hn:(dF a 0 fn ps body o).length≤100:=by unfold dF; simp only [uY,An,vb,XH,Om]; omega
  have hd:(dF a 0 fn ps body o)[a]?=some (.df fn ps):=by unfold dF; rw [uX (by simp),An,Nat.sub_self]; rfl
  have hm:=De a fn ps body o
  have ok:∀ r∈dF a 0 fn ps body o,u_ r:=L' (fun r hr=>(cb r hr).1) ho (by omega) hnm
  have hg:∃ o' l,dF a 0 fn ps body o=l ++ [Rw.give o']:=Dg a fn ps body o
  have hb:=xP (a:=a) (fn:=fn) (ps:=ps) (fun r hr=>⟨(cb r hr).1,(cb r hr).2.1⟩) ho
  generalize dF a 0 fn ps body o=rs at *
  obtain ⟨ni,eni⟩:=DU (qf (h / 360) (show (6:Int)≠0 by decide))
  have hni:ni < 6:=by have:=qi (h / 360) (show (0:Int) < 6 by decide); omega
  refine ⟨rfl,⟨by decide,by decide⟩,by decide,?_⟩
  rw [eni]
  refine ⟨by omega,by omega,by rw [gS]; exact cf (by omega),?_⟩
  rw [xY]
  refine iG (u:=fun k=>.int (HW HZ k)) (fun k hk r hr=>?_) ?_
  · rw [Int.zero_add]
    refine ⟨by decide,rfl,HZ,2+k % 4,by push_cast; rfl,⟨by show (0:Int) < (k:Int)+1; omega,by show (k:Int)+1 < 1073741824; omega⟩,⟨by decide,by decide,by decide⟩,by decide +kernel,⟨by decide,by decide,by decide⟩,hr⟩
  have acU:((List.range ni).map fun k=>T.int (HW HZ k))=((List.range ni).map (HW HZ)).map T.int:=by rw [Ap]; rfl
  rw [acU]
  have Bt:((List.range ni).map (HW HZ)).length≤100:=by simp; omega
  generalize (List.range ni).map (HW HZ)=ins at Bt ⊢
  have Vz:∀ f ps,Rw.df f ps∈rs.drop a→ps.length≤100:=fun f ps hmm=>(ok _ (List.mem_of_mem_drop hmm)).1
  obtain ⟨WU,YC⟩:=me 1000 (rs.drop a) a (bo ps (ins.map cv) ps.length) [] Vz (fun t ht=>nomatch ht)
  have fl:=uF 1000 (rs.drop a) a (bo ps (ins.map cv) ps.length) []
  have acV:∀ m,bK m (rs.drop a) a (bo ps (ins.map cv) ps.length) []=jv m (bK 1000 (rs.drop a) a (bo ps (ins.map cv) ps.length) []):=fun m=>t_ _ _ _ _ (jw _) (by simp; omega)
  have Mh:∀ m,xy rs ins m (jv m (bK 1000 (rs.drop a) a (bo ps (ins.map cv) ps.length) [])):=fun m=>by rw [← acV m]; exact .dF hm hd ok hg
  refine ⟨cf (by simp),?_⟩
  refine ⟨rfl,rs,a,fn,ps,ins,rfl,hd,hb,hnd,h4,hn,Bt,?_⟩
  generalize bK 1000 (rs.drop a) a (bo ps (ins.map cv) ps.length) []=R at WU YC fl Mh ⊢
  have hRl:R.1.length≤100:=by rw [XO] at fl; simp at fl; omega
  have acW:jv 200 R=R:=by unfold jv; rw [if_neg (by omega)]
  have pR:=mf WU YC
  refine ⟨_,ai (j:=0) rfl,_,ai (j:=1) rfl,rfl,rs,ins,200,R,rfl,B,hn,Bt,by have:=Mh 200; rw [acW] at this; exact this,?_⟩
  refine ⟨by show 8 < 10; decide,?_⟩
  have xR:=gu _ pR.1
  have pH:plainT (.lst [.lst (rs.map a8),.lst (ins.map T.int)])=true:=by
   simp only [plainT,bQ,dW (f:=a8) yT,dW (f:=T.int) (fun _=>by simp [plainT]),Bool.and_self]
  have dH:dep (.lst [.lst (rs.map a8),.lst (ins.map T.int)])≤100:=by
   have d1:fY (rs.map a8)≤2:=gA (f:=a8) (n:=2) Gj rs
   have d2:fY (ins.map T.int)≤0:=gA (f:=T.int) (n:=0) (fun _=>by simp [dep]) ins
   simp only [dep,fY]
   omega
  refine ⟨rfl,R,rfl,WU,YC,pR.1,pR.1,pR.2,?_⟩
  refine E7 (c:=!eqT (resT R) (resT R)) (by rw [xR]; rfl) ?_
  refine ⟨cf (by simp),pH,pH,dH,?_⟩
  refine E7 (c:=!eqT (.lst [.lst (rs.map a8),.lst (ins.map T.int)]) (.lst [.lst (rs.map a8),.lst (ins.map T.int)])) (by rw [gu _ pH]; rfl) ?_
  intro p
  refine ⟨hbk,hct,rfl,HZ,2,rfl,by decide,rfl,?_⟩
  obtain ⟨mo,emo⟩:=DU (qf (HZ.getD 2 0) (show (61:Int)≠0 by decide))
  have hmo:mo < 61:=by have:=qi (HZ.getD 2 0) (show (0:Int) < 61 by decide); omega
  rw [emo]
  obtain ⟨mn,emn⟩:=DU (qf h (show (7:Int)≠0 by decide))
  have hmn:mn < 7:=by have:=qi h (show (0:Int) < 7 by decide); omega
  refine ⟨hbk,hct,by decide,rfl,1+mn,ins,mo,by rw [emn]; push_cast; rfl,by omega,Bt,rfl,?_⟩
  refine ⟨hbk,hct,_,ai (j:=0) rfl,?_⟩
  refine jt (fun il=>?_) (fun il=>?_)
  · have acX:(mo:Int) < (R.1.length:Int):=il
    have ec:jv mo R=(R.1.take mo,ig):=by unfold jv; rw [if_pos (by omega)]
    have ect:f_ R.1 none (some (mo:Int))=R.1.take mo:=by
     have:=eF.pO (id:T→T) R.1 mo (by omega)
     rw [List.map_id,List.map_id] at this
     exact this
    have WV:=Mh mo
    rw [ec] at WV
    have c1:∀ t∈R.1.take mo,pM t:=fun t ht=>WU t (List.mem_of_mem_take ht)
    have pC:=mf (R:=(R.1.take mo,ig)) c1 (.inr (.inr rfl))
    refine ⟨_,ai (j:=0) rfl,cf (by simp),cf (by simp),rfl,?_⟩
    refine ⟨_,ai (j:=0) rfl,_,ai (j:=1) rfl,rfl,rs,ins,mo,_,rfl,B,hn,Bt,WV,?_⟩
    refine ⟨rfl,_,rfl,c1,.inr (.inr rfl),?_⟩
    show MZ (resT (R.1.take mo,ig)) (.tup [.lst (f_ R.1 none (some (mo:Int))),.tup [.str "cut",.int 0]]) _
    rw [ect]
    refine ⟨pC.1,pC.1,pC.2,?_⟩
    show d.rt _ (.vw (.bl (eqT (resT (R.1.take mo,ig)) (resT (R.1.take mo,ig)))))
    rw [gu _ pC.1]
    exact fin _
  · have acX:¬ (mo:Int) < (R.1.length:Int):=il
    have ec:jv mo R=R:=by unfold jv; rw [if_neg (by omega)]
    have WV:=Mh mo
    rw [ec] at WV
    refine ⟨rfl,?_⟩
    refine ⟨_,ai (j:=0) rfl,_,ai (j:=1) rfl,rfl,rs,ins,mo,_,rfl,B,hn,Bt,WV,?_⟩
    refine ⟨rfl,_,rfl,WU,YC,pR.1,pR.1,pR.2,?_⟩
    show d.rt _ (.vw (.bl (eqT (resT R) (resT R))))
    rw [xR]
    exact fin _
 generalize HZ=ns at *
 refine ⟨rfl,ns,1,rfl,⟨by decide,by decide,by decide⟩,by decide +kernel,?_⟩
 generalize hh:ns.getD 1 0 % (10:Int) ^ (9:Int).toNat=h
 have h0:0≤h:=by rw [← hh]; exact qf _ (by decide)
 have h1:h < 1000000000:=by rw [← hh]; exact qi _ (by decide)
 obtain ⟨m0,em0⟩:=DU (qf h (show (3:Int)≠0 by decide))
 have hm0:m0 < 3:=by have:=qi h (show (0:Int) < 3 by decide); omega
 refine ⟨rfl,ns,0,rfl,by decide,rfl,ns.getD 0 0,3+m0,?_,by omega,fun ys hN=>?_⟩
 · rw [em0]; push_cast; rfl
 have Y:eF.Ys ys:=⟨by rw [hN.l]; omega,by rw [hN.l]; omega,fun y hy=>by have:=kT (hN.nm y hy); omega⟩
 obtain ⟨a,ea,ha⟩:∃ a:Nat,h / 3 % 2 * (h / 6 % 4)=(a:Int)∧a≤3:=by
  have g0:=qf (h / 3) (show (2:Int)≠0 by decide)
  have g1:=qi (h / 3) (show (0:Int) < 2 by decide)
  obtain ⟨b,eb⟩:=DU (qf (h / 6) (show (4:Int)≠0 by decide))
  have g2:=qi (h / 6) (show (0:Int) < 4 by decide)
  have:h / 3 % 2=0∨h / 3 % 2=1:=by omega
  rcases this with e | e
  · exact ⟨0,by rw [e,Int.zero_mul]; rfl,by omega⟩
  · exact ⟨b,by rw [e,Int.one_mul,eb],by omega⟩
 refine ⟨cf (by simp),cf (by simp),⟨by decide,by decide⟩,by decide,⟨by decide,by decide⟩,by decide,.inl ⟨by omega,by omega⟩,?_⟩
 rw [ea]
 refine ⟨by omega,by omega,by rw [xY]; show 1 * a≤sizeLine; exact cf (by omega),?_⟩
 rw [xY]
 have er:(List.replicate a [(Rt.vw (T.tup [(Rt.vw (T.str "skip")).t])).t]).flatten=(List.replicate a Rw.skip).map a8:=sr a
 rw [er]
 obtain ⟨fn,XT,WW⟩:∃ y∈ys,kY (ys.map T.str) (-1)=some (T.str y):=by
  have hl:0 < ys.length:=by rw [hN.l]; omega
  refine ⟨ys[ys.length - 1],Oj _,?_⟩
  unfold kY uZ
  rw [if_neg (by decide),cU,if_pos (by omega)]
  have e:(-1+(ys.length:Int)).toNat=ys.length - 1:=by omega
  show (ys.map T.str)[(-1+(ys.length:Int)).toNat]?=_
  rw [e,i4,qe (by omega)]
  rfl
 obtain ⟨k,ek,hk4,hkl⟩:∃ k:Nat,h / 24 % (((ys.map T.str).length:Int)+1) % 5=(k:Int)∧k≤4∧k≤ys.length:=by
  rw [cU]
  have g0:=qf (h / 24) (show ((ys.length:Int)+1)≠0 by omega)
  have g1:=qi (h / 24) (show (0:Int) < (ys.length:Int)+1 by omega)
  generalize h / 24 % ((ys.length:Int)+1)=v at g0 g1
  obtain ⟨b,eb⟩:=DU (qf v (show (5:Int)≠0 by decide))
  exact ⟨b,eb,by omega,by omega⟩
 have acY:f_ (ys.map T.str) none (some (k:Int))=(ys.take k).map T.str:=eF.pO T.str ys k hkl
 have WX:((List.replicate a Rw.skip).map a8).length=a:=by rw [cU,An]
 refine ⟨_,WW,⟨by decide,by decide⟩,by show (0:Int) < ((ys.map T.str).length:Int)+1; omega,by decide,?_⟩
 rw [ek]
 refine ⟨cf (by simp),by rw [WX]; exact cf (by omega),?_⟩
 obtain ⟨ms,ems,hms⟩:=RT T.int ns (some 6) (some 46)
 refine ⟨rfl,?_⟩
 show (f_ (ns.map T.int) (some 6) (some 46)).length≤sizeLine∧cx _ _ _ _ (f_ (ns.map T.int) (some 6) (some 46)) _
 rw [ems]
 refine ⟨by rw [cU]; exact cf (by omega),?_⟩
 refine wK (Pd:=fun t=>∃ r,so ys r∧t=a8 r) (fun t ht g hg=>?_) (fun us hul BV=>?_)
 · obtain ⟨c,_,rfl⟩:=vd.mp ht
   exact ⟨rfl,c,ys,rfl,Y,fun r hr=>hg _ ⟨r,hr,rfl⟩⟩
 obtain ⟨body,rfl,cb⟩:=all_rows BV
 rw [cU,cU] at hul
 refine ⟨?_,?_⟩
 · simp only [uY,cU,An,vb,Om]
   exact cf (by omega)
 refine ⟨⟨by decide,by decide⟩,rfl,_,ys,rfl,⟨Int.ediv_nonneg h0 (by decide),by have:=Int.ediv_le_self 120 h0; omega⟩,Y,fun o ho=>?_⟩
 refine ⟨cf (by simp),?_,?_⟩
 · simp only [uY,cU,An,vb,Om]
   exact cf (by omega)
 have ers:(((List.replicate a Rw.skip).map a8 ++ [T.tup [.str "def",.str fn,.tup (f_ (ys.map T.str) none (some (k:Int)))]]) ++ body.map a8) ++ [T.tup [.str "give",eM o]]=(dF a 0 fn (ys.take k) body o).map a8:=by
  rw [acY]
  unfold dF
  simp only [Oq,i5,XN,MC,SE,XH,ME]
  rfl
 refine ⟨h,ys,a,_,fn,ys.take k,body,o,_,rfl,?_,ers,h63,h0,h1,ha,by omega,hN.nd.sublist (List.take_sublist _ _),by rw [Oh]; omega,fun y hy=>hN.nm y (List.mem_of_mem_take hy),fun r hr=>?_,?_,rfl,rfl,fun _=>hq⟩
 · rw [WX]
 · exact ⟨(HU hN.nm (cb r hr)).1,(HU hN.nm (cb r hr)).2,HS (cb r hr)⟩
 · cases o with
   | nm x=>exact ⟨hN.nm x ho,by have:=kT (hN.nm x ho); omega⟩
   | nu i=>exact ho
end
end cV
namespace VT
open PySem PySem.Spec PyProof.Rows L2
theorem BA {K:KFr} {fd:FuncData} {ps:List Str} {ds:List Value} {a:Addr} {o:Obj} {xs:Array Value} {n m:Nat} (h1:fd.defaults = .ref a) (h2:K.lookup a=some o) (h3:o.data = .seq xs n) (hl:ps.length=m+ds.length)
  (h:∀ us:List Value,us.length=m→∃ k,bindArgs fd ⟨us,[]⟩=seqItems? fd.defaults >>= k∧k (some xs)=pure (ps.zip (us ++ ds))):Binds K fd ps ds:=fun s us KX e=>by
 obtain ⟨k,e1,e2⟩:=h us (by rw [uY] at e; omega)
 exact BindsTo.of_defaults h1 (KX _ _ h2) h3 e1 e2
end VT
namespace bH
open PySem L2 VT
theorem WY {K:KFr} {h:Heap} {mg:Str→Option Value} (X:K.In h) (G:h.Ns mainGlobals mg) {x:Str} {st:Stmt} {ps:List Str} {f:Addr} {oc:Value} {od an:Option Addr} {BR:Array (Option Value)} {kV doc pm bu ct:Value}
  (a:PySem.W.nsIn K mainGlobals x=some (some (.ref f))) (l:K.lookup f=some ⟨oc,od,.func (PySem.W.fnOf x x (cR st) (bA st) (ah st) .none kV doc pm an bu ct),BR⟩)
  (c:PySem.W.codeIn K bu x=true) (k:PySem.W.keepIn K (.ref f)=true)
  (hb:∀ (kV doc pm:Value) (an:Option Addr) (bu ct:Value) (us:List Value),us.length=ps.length→bindArgs (PySem.W.fnOf x x (cR st) (bA st) (ah st) .none kV doc pm an bu ct) ⟨us,[]⟩=pure (ps.zip us)) :
  ∃ f fd,Df K mg x st ps f fd:=by
 have F:=oj (st:=st) l c k
 exact ⟨f,_,F,mz X G a,F.binds hb⟩
theorem R4 {C:List Value→Prop} (h:C []):∀ us:List Value,us.length=0→C us
 | [],_=>h
theorem uP {n:Nat} {C:List Value→Prop} (h:∀ a,∀ us:List Value,us.length=n→C (a :: us)):∀ us:List Value,us.length=n+1→C us
 | a :: us,e=>h a us (Nat.succ.inj e)
theorem WZ {C:List Value→Prop} (h:∀ a,C [a]):∀ us:List Value,us.length=1→C us:=uP fun a=>R4 (h a)
theorem Dk {C:List Value→Prop} (h:∀ a,C [a]):∀ us:List Value,us.length=1→C us:=WZ h
theorem x6 {C:List Value→Prop} (h:∀ a b,C [a,b]):∀ us:List Value,us.length=2→C us:=uP fun a=>Dk (h a)
theorem R5 {C:List Value→Prop} (h:∀ a b c,C [a,b,c]):∀ us:List Value,us.length=3→C us:=uP fun a=>x6 (h a)
theorem R6 {C:List Value→Prop} (h:∀ a b c d,C [a,b,c,d]):∀ us:List Value,us.length=4→C us:=uP fun a=>R5 (h a)
abbrev pE:Program:=PySem.Challenge.pw_slicewise_k12_straight_rows
noncomputable def qE:Program:=PySem.W.view pE [1,2,3,4,5,6,7,8,9,11,12,13,14,16,17,18,19,21,22,23,24,25,26,27,28,29,30,31,32,34,35,36,37,38,39,40,41,42,43,44,45,46,47,48,49,50,52,54,55,56,57,58,59,60,61,62,63,64,65]
def pU:List Str:=["USED_PLACES","RECKONERS","FOLLOWERS","run"]
def Oc:List Addr:=[0,1,2,3,4,5,6,7,8,9,10,11,12,13,14,15,16,17,18,19,20,21,22,23,24,25,26,27,28,29,30,31,32,33,34,35,36,37,38,39,40,41,42,43,44,45,46,47,48,49,50,51,52,53,54,55,56,57,65,66,67,68,69,70,71,72,73,74,75,76,79,80,81,82,83,84,85,86,87,88,89,90,91,92,93,94,95,96,97,98,99,100,101,102,103,104,105,106,107,108,109,110,111,112,113,114,115,116,117,118,119,120,121,122,123,124,125,126,127,128,129,130,131,132,133,134,135,136,137,138,139,140,141,142,143,144,145,146,147,148,149,150,151,152,153,154,155,156,157,158,159,160,161,162,163,164,165,166,167,168,169,170,171,172,173,174,175,176,177,185,186,187,188,189,190,191,192,193,194,195,196,206,207,208,209,210,211,212,213,214,215,216,217,220,221,222,223,224,225,226,227,228,229,230,231,232,233,234,235,236,237,238,239,240,241,242,243,244,245,246,247,248,249,250,251,252,253,254,255,256,257,258,259,260,261,262,263,264,265,266,267,268,269,270,271,272,273,274,275,276,277,278,279,280,281,282,283,284,285,286,287,288,289,290,291,292,293,294,295,296,297,298,299,300,301,302,303,304,305,306,307,308,309,310,311,312,313,314,315,316,317,318,319,320,321,322,323,324,325,326,327,328,329,330,331,332,333,334,335,336,337,338,339,340,341,342,343,344,345,346,347,348,349,350,351,352,353,354,355,356,357,358,359,360,361,362,363,364,365,366,367,368,369,370,371,372,373,374,375,376,377,378,379,380,381,382,383,384,385,386,387,388,389,390,391,392,393,394,395,396,397,398,399,400,401,402,403,404,405,406,407]
abbrev OV:=Option (Option Value)
abbrev OO:=Option Obj
abbrev N (K:KFr) (x:Str):=PySem.W.nsIn K mainGlobals x
abbrev Lk (K:KFr) (a:Addr):=List.lookup a K
abbrev R (a:Addr):OV:=some (some (.ref a))
abbrev fo (x q:Str) (st:Stmt) (pm:Value) (c:Addr):OO:=some ⟨.type "function",none,.func (PySem.W.fnOf x q (cR st) (bA st) (ah st) .none .none .none pm none (.ref c) .none),#[]⟩
abbrev cI (K:KFr) (c:Value) (q:Str):=PySem.W.codeIn K c q
abbrev kI (K:KFr) (f:Addr):=PySem.W.keepIn K (.ref f)
abbrev fI (K:KFr) (c:Addr) (x:Str):=PySem.W.findIn K (.ref c) x
abbrev Q4:=OV×OO×Bool×Bool
noncomputable def q4 (K:KFr) (x:Str) (f c:Addr):Q4:=(N K x,Lk K f,cI K (.ref c) x,kI K f)
noncomputable def v4 (x:Str) (st:Stmt) (f:Addr) (pm:Value) (c:Addr):Q4:=(R f,fo x x st pm c,true,true)
theorem bM {K:KFr} {h:Heap} {mg:Str→Option Value} (X:K.In h) (G:h.Ns mainGlobals mg) {x:Str} {st:Stmt} {ps:List Str} {f c:Addr} {pm:Value} (e:q4 K x f c=v4 x st f pm c)
  (hb:∀ (kV doc pm:Value) (an:Option Addr) (bu ct:Value) (us:List Value),us.length=ps.length→bindArgs (PySem.W.fnOf x x (cR st) (bA st) (ah st) .none kV doc pm an bu ct) ⟨us,[]⟩=pure (ps.zip us)) :
  ∃ f fd,Df K mg x st ps f fd:=by
 unfold q4 v4 at e
 simp only [Prod.mk.injEq] at e
 exact WY X G e.1 e.2.1 e.2.2.1 e.2.2.2 hb
abbrev XX:Type:=(((((((OV×OV)×(OV×OV))×((OO×OV)×(OO×(OV×OO))))×(((OV×OO)×(OV×OO))×((OO×OO)×(OO×(OO×OO)))))×((((OO×OO)×(OV×OV))×((OV×OV)×(OV×(OV×OV))))×(((OO×OV)×(OV×(OV×OV)))×((OV×OV)×(OV×(OV×OV))))))×(((((OV×OO)×(OV×OV))×((OV×OV)×(OV×(OV×OV))))×(((OV×OV)×(OV×(OV×OV)))×((OV×OV)×(Bool×(OO×Bool)))))×((((Bool×Bool)×(Bool×Bool))×((OV×Bool)×(Bool×(OV×OV))))×(((OV×OV)×(OV×(OV×OV)))×((OV×OV)×(Bool×(OO×Bool)))))))×((((((Bool×Bool)×(Bool×Bool))×((OV×Bool)×(Bool×(OV×OV))))×(((OV×OV)×(Bool×(OO×Bool)))×((Bool×Bool)×(Bool×(Bool×OV)))))×((((Bool×Bool)×(OV×OV))×((OV×OV)×(OV×(OV×OV))))×(((OV×OV)×(OV×(OO×Bool)))×((Bool×OO)×(OV×(OO×Bool))))))×(((((Bool×Q4)×(Q4×Q4))×((Q4×Q4)×(Q4×(Q4×Q4))))×(((Q4×Q4)×(Q4×(Q4×Q4)))×((Q4×Q4)×(Q4×(Q4×Q4)))))×((((Q4×Q4)×(Q4×Q4))×((Q4×Q4)×(Q4×(Q4×Q4))))×(((Q4×Q4)×(Q4×(Q4×Q4)))×((Q4×Q4)×(Q4×(Q4×Q4))))))))
noncomputable def FF (K:KFr):XX:=(((((((N K "LETTERS",N K "LONGEST_NAME"),(N K "H",N K "DIVISIONS")),((Lk K 15,N K "SILENT"),(Lk K 16,(N K "CLOSERS",Lk K 43)))),(((N K "OPENERS",Lk K 42),(N K "USED_PLACES",Lk K 29)),((Lk K 36,Lk K 35),(Lk K 34,(Lk K 33,Lk K 32))))),((((Lk K 31,Lk K 30),(N K "plus",N K "minus")),((N K "times",N K "over"),(N K "rest",(N K "less",N K "RECKONERS")))),(((Lk K 163,N K "follow_plain"),(N K "follow_give",(N K "follow_name",N K "follow_do"))),((N K "follow_new",N K "follow_set"),(N K "follow_call",(N K "follow_fail",N K "follow_choice")))))),(((((N K "FOLLOWERS",Lk K 304),(N K "isinstance",N K "str")),((N K "int",N K "bool"),(N K "len",(N K "all",N K "list")))),(((N K "tuple",N K "range"),(N K "enumerate",(N K "zip",N K "min"))),((N K "Layout",fI K 74 "__init__"),(PySem.W.isFn K (.ref 71),(Lk K 71,cI K (.ref 70) "Layout.__init__"))))),((((kI K 71,PySem.W.plainGet K 74 Str.empty),(PySem.W.hasDictIn K 74,PySem.W.plainOver K 74)),((fI K 74 "__setattr__",PySem.W.makesIn K 74),(kI K 74,(fI K 74 "program",fI K 74 "heads")))),(((fI K 74 "ends",fI K 74 "elses"),(fI K 74 "homes",(fI K 74 "defs",fI K 74 "main"))),((N K "Frame",fI K 194 "__init__"),(PySem.W.isFn K (.ref 191),(Lk K 191,cI K (.ref 190) "Frame.__init__"))))))),((((((kI K 191,PySem.W.plainGet K 194 Str.empty),(PySem.W.hasDictIn K 194,PySem.W.plainOver K 194)),((fI K 194 "__setattr__",PySem.W.makesIn K 194),(kI K 194,(fI K 194 "call",fI K 194 "names")))),(((N K "Machine",fI K 215 "__init__"),(PySem.W.isFn K (.ref 212),(Lk K 212,cI K (.ref 211) "Machine.__init__"))),((kI K 212,PySem.W.plainGet K 215 Str.empty),(PySem.W.hasDictIn K 215,(PySem.W.plainOver K 215,fI K 215 "__setattr__"))))),((((PySem.W.makesIn K 215,kI K 215),(fI K 215 "layout",fI K 215 "most")),((fI K 215 "poke",fI K 215 "frames"),(fI K 215 "cells",(fI K 215 "counts",fI K 215 "doings")))),(((fI K 215 "place",fI K 215 "ended"),(N K "run",(Lk K 324,cI K (.ref 323) "run"))),((kI K 324,Lk K 317),(N K "law",(Lk K 407,cI K (.ref 406) "law")))))),(((((kI K 407,q4 K "is_name" 21 20),(q4 K "is_field" 28 27,q4 K "operands" 41 40)),((q4 K "shape" 57 56,q4 K "first_defs" 50 49),(q4 K "row_behind" 99 98,(q4 K "fit" 106 105,q4 K "is_record" 113 112)))),(((q4 K "number_of" 120 119,q4 K "plus" 127 126),(q4 K "minus" 134 133,(q4 K "times" 141 140,q4 K "over" 148 147))),((q4 K "rest" 155 154,q4 K "less" 162 161),(q4 K "reckoned" 170 169,(q4 K "value_of" 233 232,q4 K "made_by" 240 239))))),((((q4 K "follow_plain" 247 246,q4 K "follow_name" 254 253),(q4 K "follow_do" 261 260,q4 K "follow_give" 289 288)),((q4 K "enter" 226 225,q4 K "done_row" 309 308),(q4 K "step" 316 315,(q4 K "run_poked" 329 328,q4 K "_law_cell_at" 336 335)))),(((q4 K "_law_names" 341 340,q4 K "_law_number" 348 347),(q4 K "_law_operand" 355 354,(q4 K "_law_row" 362 361,q4 K "_law_fit" 369 368))),((q4 K "_law_reckoned" 376 375,q4 K "_law_look" 383 382),(q4 K "_law_due" 388 387,(q4 K "_law_kinds" 395 394,q4 K "_law_bare" 402 401))))))))
noncomputable def VV (w:World):XX:=(((((((some (some (.str AG.bP 191)),some (some (.int 8 193))),(some (some (.int 1000000000000000000000000000000 189)),R 15)),((some ⟨.type "tuple",none,.seq #[.str "over" 195,.str "rest" 196] 0,#[]⟩,R 16),(some ⟨.type "tuple",none,.seq #[.str "else" 198,.str "end" 199,.str "skip" 200] 0,#[]⟩,(R 43,some ⟨.type "tuple",none,.seq #[.str "give" 253,.str "end" 254] 0,#[]⟩)))),(((R 42,some ⟨.type "tuple",none,.seq #[.str "def" 249,.str "if" 250,.str "while" 251] 0,#[]⟩),(R 29,some ⟨.type "dict",none,.dict #[⟨PyData.keyHash w.params "give",.str "give" 215,.ref 30⟩,⟨PyData.keyHash w.params "put",.str "put" 217,.ref 31⟩,⟨PyData.keyHash w.params "do",.str "do" 219,.ref 32⟩,⟨PyData.keyHash w.params "get",.str "get" 222,.ref 33⟩,⟨PyData.keyHash w.params "set",.str "set" 225,.ref 34⟩,⟨PyData.keyHash w.params "if",.str "if" 229,.ref 35⟩,⟨PyData.keyHash w.params "while",.str "while" 231,.ref 36⟩] 7,#[]⟩)),((some ⟨.type "tuple",none,.seq #[.int (1) 232] 0,#[]⟩,some ⟨.type "tuple",none,.seq #[.int (1) 230] 0,#[]⟩),(some ⟨.type "tuple",none,.seq #[.int (1) 226,.int (2) 227,.int (3) 228] 0,#[]⟩,(some ⟨.type "tuple",none,.seq #[.int (2) 223,.int (3) 224] 0,#[]⟩,some ⟨.type "tuple",none,.seq #[.int (2) 220,.int (4) 221] 0,#[]⟩))))),((((some ⟨.type "tuple",none,.seq #[.int (2) 218] 0,#[]⟩,some ⟨.type "tuple",none,.seq #[.int (1) 216] 0,#[]⟩),(R 127,R 134)),((R 141,R 148),(R 155,(R 162,R 163)))),(((some ⟨.type "dict",none,.dict #[⟨PyData.keyHash w.params "plus",.str "plus" 414,.ref 127⟩,⟨PyData.keyHash w.params "minus",.str "minus" 415,.ref 134⟩,⟨PyData.keyHash w.params "times",.str "times" 416,.ref 141⟩,⟨PyData.keyHash w.params "over",.str "over" 417,.ref 148⟩,⟨PyData.keyHash w.params "rest",.str "rest" 418,.ref 155⟩,⟨PyData.keyHash w.params "less",.str "less" 419,.ref 162⟩] 6,#[]⟩,R 247),(R 289,(R 254,R 261))),((R 268,R 275),(R 282,(R 296,R 303)))))),(((((R 304,some ⟨.type "dict",none,.dict #[⟨PyData.keyHash w.params "def",.str "def" 641,.ref 247⟩,⟨PyData.keyHash w.params "give",.str "give" 642,.ref 289⟩,⟨PyData.keyHash w.params "put",.str "put" 643,.ref 254⟩,⟨PyData.keyHash w.params "do",.str "do" 644,.ref 261⟩,⟨PyData.keyHash w.params "new",.str "new" 645,.ref 268⟩,⟨PyData.keyHash w.params "get",.str "get" 646,.ref 254⟩,⟨PyData.keyHash w.params "set",.str "set" 647,.ref 275⟩,⟨PyData.keyHash w.params "call",.str "call" 648,.ref 282⟩,⟨PyData.keyHash w.params "fail",.str "fail" 649,.ref 296⟩,⟨PyData.keyHash w.params "if",.str "if" 650,.ref 303⟩,⟨PyData.keyHash w.params "while",.str "while" 651,.ref 303⟩] 11,#[]⟩),(some none,some none)),((some none,some none),(some none,(some none,some none)))),(((some none,some none),(some none,(some none,some none))),((R 74,some (some (.ref 71))),(true,(fo "__init__" "Layout.__init__" Lay.iH (.str "slicewise.layouts" 280) 70,true))))),((((true,true),(true,true)),((some (some (.builtin "object.__setattr__")),true),(true,(some none,some none)))),(((some none,some none),(some none,(some none,some none))),((R 194,some (some (.ref 191))),(true,(fo "__init__" "Frame.__init__" Run.kN (.str "slicewise.runs" 446) 190,true))))))),((((((true,true),(true,true)),((some (some (.builtin "object.__setattr__")),true),(true,(some none,some none)))),(((R 215,some (some (.ref 212))),(true,(fo "__init__" "Machine.__init__" Run.gC (.str "slicewise.runs" 446) 211,true))),((true,true),(true,(true,some (some (.builtin "object.__setattr__"))))))),((((true,true),(some none,some none)),((some none,some none),(some none,(some none,some none)))),(((some none,some none),(R 324,(some ⟨.type "function",none,.func (PySem.W.fnOf "run" "run" (cR Run.e6) (bA Run.e6) (ah Run.e6) (.ref 317) (.none) (.none) (.str "slicewise.runs" 446) none (.ref 323) (.none)),#[]⟩,true))),((true,some ⟨.type "tuple",none,.seq #[.int (200) 678] 0,#[]⟩),(R 407,(fo "law" "law" cV.kS (.str "law_slicewise_k12_straight_rows" 694) 406,true)))))),(((((true,v4 "is_name" Nm.jd 21 (.str "slicewise.rows" 187) 20),(v4 "is_field" Nm.jS 28 (.str "slicewise.rows" 187) 27,v4 "operands" SY.jT 41 (.str "slicewise.rows" 187) 40)),((v4 "shape" V7.kF 57 (.str "slicewise.programs" 247) 56,v4 "first_defs" Lay.gX 50 (.str "slicewise.programs" 247) 49),(v4 "row_behind" Nx.gY 99 (.str "slicewise.layouts" 280) 98,(v4 "fit" l_.mR 106 (.str "slicewise.values" 343) 105,v4 "is_record" l_.iI 113 (.str "slicewise.values" 343) 112)))),(((v4 "number_of" l_.iJ 120 (.str "slicewise.values" 343) 119,v4 "plus" l_.zd 127 (.str "slicewise.values" 343) 126),(v4 "minus" l_.ur 134 (.str "slicewise.values" 343) 133,(v4 "times" l_.uu 141 (.str "slicewise.values" 343) 140,v4 "over" l_.ze 148 (.str "slicewise.values" 343) 147))),((v4 "rest" l_.zg 155 (.str "slicewise.values" 343) 154,v4 "less" l_.zh 162 (.str "slicewise.values" 343) 161),(v4 "reckoned" l_.cX 170 (.str "slicewise.values" 343) 169,(v4 "value_of" Run.jV 233 (.str "slicewise.runs" 446) 232,v4 "made_by" Run.ma 240 (.str "slicewise.runs" 446) 239))))),((((v4 "follow_plain" Run.eZ 247 (.str "slicewise.runs" 446) 246,v4 "follow_name" Run.gf 254 (.str "slicewise.runs" 446) 253),(v4 "follow_do" Run.iP 261 (.str "slicewise.runs" 446) 260,v4 "follow_give" Run.gg 289 (.str "slicewise.runs" 446) 288)),((v4 "enter" Run.uy 226 (.str "slicewise.runs" 446) 225,v4 "done_row" Run.jW 309 (.str "slicewise.runs" 446) 308),(v4 "step" Run.uz 316 (.str "slicewise.runs" 446) 315,(v4 "run_poked" Run.fS 329 (.str "slicewise.runs" 446) 328,v4 "_law_cell_at" eF.jf 336 (.str "law_slicewise_k12_straight_rows" 694) 335)))),(((v4 "_law_names" eF.nS 341 (.str "law_slicewise_k12_straight_rows" 694) 340,v4 "_law_number" eF.kR 348 (.str "law_slicewise_k12_straight_rows" 694) 347),(v4 "_law_operand" eF.jg 355 (.str "law_slicewise_k12_straight_rows" 694) 354,(v4 "_law_row" cV.s_row 362 (.str "law_slicewise_k12_straight_rows" 694) 361,v4 "_law_fit" cV.mR 369 (.str "law_slicewise_k12_straight_rows" 694) 368))),((v4 "_law_reckoned" cV.cX 376 (.str "law_slicewise_k12_straight_rows" 694) 375,v4 "_law_look" cV.zQ 383 (.str "law_slicewise_k12_straight_rows" 694) 382),(v4 "_law_due" cV.HG 388 (.str "law_slicewise_k12_straight_rows" 694) 387,(v4 "_law_kinds" cV.uJ 395 (.str "law_slicewise_k12_straight_rows" 694) 394,v4 "_law_bare" cV.zR 402 (.str "law_slicewise_k12_straight_rows" 694) 401))))))))
theorem zU (w:World) (os:OsState):HE.lookA pE qE pU [] [] (HE.dM (w.withFollow "special-get-raises" false).params) (PySem.W.boot_heap (w.withFollow "special-get-raises" false).params) (w.withFollow "special-get-raises" false) 2691 os=some (true,(PySem.W.openGood qE pU).1,(PySem.W.openGood qE pU).2.1):=by
 rw [PySem.W.Fast.te2848547177322276819]
 kernel_rfl
theorem Dl (w:World) (os:OsState):HE.lookA pE qE pU [] [] (HE.dM (w.withFollow "special-get-raises" true).params) (PySem.W.boot_heap (w.withFollow "special-get-raises" true).params) (w.withFollow "special-get-raises" true) 2691 os=some (true,(PySem.W.openGood qE pU).1,(PySem.W.openGood qE pU).2.1):=by
 rw [PySem.W.Fast.te2848547177322276819]
 kernel_rfl
theorem acZ (w:World) (os:OsState):HE.lookA pE qE pU [] [] (HE.dM (w).params) (PySem.W.boot_heap (w).params) (w) 2691 os=some (true,(PySem.W.openGood qE pU).1,(PySem.W.openGood qE pU).2.1) :=
 PySem.W.byRow2 "special-get-raises" (P:=fun w=>∀ os,HE.lookA pE qE pU [] [] (HE.dM (w).params) (PySem.W.boot_heap (w).params) (w) 2691 os=some (true,(PySem.W.openGood qE pU).1,(PySem.W.openGood qE pU).2.1)) zU Dl w os
theorem zV (w:World) (os:OsState):HE.lookB pE qE pU [] [] (HE.dM (w.withFollow "special-get-raises" false).params) (w.withFollow "special-get-raises" false) 2691 os=some (PySem.W.openGood qE pU).2.2:=by
 rw [PySem.W.Fast.te312265020846911052]
 kernel_rfl
theorem Dm (w:World) (os:OsState):HE.lookB pE qE pU [] [] (HE.dM (w.withFollow "special-get-raises" true).params) (w.withFollow "special-get-raises" true) 2691 os=some (PySem.W.openGood qE pU).2.2:=by
 rw [PySem.W.Fast.te312265020846911052]
 kernel_rfl
theorem ac0 (w:World) (os:OsState):HE.lookB pE qE pU [] [] (HE.dM (w).params) (w) 2691 os=some (PySem.W.openGood qE pU).2.2 :=
 PySem.W.byRow2 "special-get-raises" (P:=fun w=>∀ os,HE.lookB pE qE pU [] [] (HE.dM (w).params) (w) 2691 os=some (PySem.W.openGood qE pU).2.2) zV Dm w os
theorem zW (w:World) (os:OsState):HE.lookC pE Oc FF (HE.dM (w.withFollow "special-get-raises" false).params) (w.withFollow "special-get-raises" false) 2691 os=some (VV (w.withFollow "special-get-raises" false)):=by
 rw [PySem.W.Fast.te3135357915001837337]
 kernel_rfl
theorem Dn (w:World) (os:OsState):HE.lookC pE Oc FF (HE.dM (w.withFollow "special-get-raises" true).params) (w.withFollow "special-get-raises" true) 2691 os=some (VV (w.withFollow "special-get-raises" true)):=by
 rw [PySem.W.Fast.te3135357915001837337]
 kernel_rfl
theorem runC (w:World) (os:OsState):HE.lookC pE Oc FF (HE.dM (w).params) (w) 2691 os=some (VV (w)) :=
 PySem.W.byRow2 "special-get-raises" (P:=fun w=>∀ os,HE.lookC pE Oc FF (HE.dM (w).params) (w) 2691 os=some (VV (w))) zW Dn w os
theorem R7:PySem.Challenge.rw_slicewise_k12_straight_rows.wellSaid=true:=by kernel_rfl
noncomputable abbrev KE (w:World):KFr:=HE.Kf Oc (HE.tO pE 6062 w)
noncomputable abbrev dE:DefRec:=HE.U4 cV.kS
theorem hd:PySem.W.LeftO pE qE pU (HE.Km qE [] []) (fun s=>Oc.map s.heap.get?) (fun w=>Oc.map (HE.tO pE 6062 w)) 6062∧∀ w,FF (KE w)=VV w:=HE.head (p:=pE) (q:=qE) (loose:=pU) (lv:=[]) (R:=[]) (as:=Oc) (N:=6062) (M:=2691) (F:=FF) (v:=VV) (by kernel_rfl) rfl (fun s=>by kernel_rfl) rfl acZ ac0 runC
theorem R8 {l:PySem.W.OpenLaw} {w:World} {K:KFr} {h:Heap} {mg:Str→Option Value} {fa:Addr} (X:K.In h) (G:h.Ns mainGlobals mg) (hfa:mg "law" = some (.ref fa)) (hF:FF K=VV w) :
  ∃ fd:FuncData,(∀ (s:Shared) (v:Value),BindsTo s fd ⟨[v],[]⟩ [("_law_script",v)])∧∀ base:Heap,K.In base→base.Ns mainGlobals mg→b_ l.prog w K mg base dI 10 fa fd ["_law_script"] (cT K 1 cV.L9):=by
 simp only [FF,VV,Prod.mk.injEq] at hF
 obtain ⟨⟨⟨⟨⟨⟨⟨mz5,mi6⟩,⟨mi7,mt8⟩⟩,⟨⟨mu8,mt9⟩,⟨mu9,⟨ac1,ac2⟩⟩⟩⟩,⟨⟨⟨ac3,ac4⟩,⟨ac5,ac6⟩⟩,⟨⟨R9,R_⟩,⟨R',⟨Sa,Sb⟩⟩⟩⟩⟩,⟨⟨⟨⟨Sd,Se⟩,⟨Mi,H_⟩⟩,⟨⟨Ia,Mj⟩,⟨Ml,⟨Mm,ac7⟩⟩⟩⟩,⟨⟨⟨ac8,nz⟩,⟨pV,⟨pW,uQ⟩⟩⟩,⟨⟨IV,IW⟩,⟨Ib,⟨Ic,Dp⟩⟩⟩⟩⟩⟩,⟨⟨⟨⟨⟨ac9,ada⟩,⟨dZ,Ie⟩⟩,⟨⟨uR,uS⟩,⟨iX,⟨Sf,uT⟩⟩⟩⟩,⟨⟨⟨gE,kU⟩,⟨hY,⟨Ig,Sg⟩⟩⟩,⟨⟨Dq,Dr⟩,⟨Ds,⟨Dt,Du⟩⟩⟩⟩⟩,⟨⟨⟨⟨Dv,Dw⟩,⟨Dx,Dy⟩⟩,⟨⟨Dz,DA⟩,⟨DB,⟨mj,pX⟩⟩⟩⟩,⟨⟨⟨qV,pY⟩,⟨pZ,⟨qW,qX⟩⟩⟩,⟨⟨Ih,Ii⟩,⟨Ij,⟨Ik,Il⟩⟩⟩⟩⟩⟩⟩,⟨⟨⟨⟨⟨⟨Im,Io⟩,⟨Ip,Iq⟩⟩,⟨⟨Ir,Iu⟩,⟨Iv,⟨uU,qY⟩⟩⟩⟩,⟨⟨⟨zX,zY⟩,⟨zZ,⟨z6,z7⟩⟩⟩,⟨⟨z8,z9⟩,⟨z_,⟨Aa,Ab⟩⟩⟩⟩⟩,⟨⟨⟨⟨Ac,Ad⟩,⟨mm,p_⟩⟩,⟨⟨qa,mq⟩,⟨nA,⟨mv,mw⟩⟩⟩⟩,⟨⟨⟨nB,nC⟩,⟨Sh,⟨Si,Sj⟩⟩⟩,⟨⟨Sk,Iw⟩,⟨W0,⟨W2,W3⟩⟩⟩⟩⟩⟩,⟨⟨⟨⟨⟨W4,adb⟩,⟨ade,adf⟩⟩,⟨⟨adg,adh⟩,⟨adi,⟨adj,adk⟩⟩⟩⟩,⟨⟨⟨adl,adm⟩,⟨W5,⟨W6,W7⟩⟩⟩,⟨⟨W8,W9⟩,⟨W_,⟨W',Xa⟩⟩⟩⟩⟩,⟨⟨⟨⟨Xb,Xc⟩,⟨Xd,Xe⟩⟩,⟨⟨Xf,Xg⟩,⟨Xh,⟨Xi,Xj⟩⟩⟩⟩,⟨⟨⟨Xk,Xl⟩,⟨Xm,⟨Xn,Xo⟩⟩⟩,⟨⟨Xp,Xq⟩,⟨Xr,⟨Xs,Xu⟩⟩⟩⟩⟩⟩⟩⟩:=hF
 have e:=hfa.symm.trans (mz X G W0)
 cases e
 have aB:Lay.QK K 74:=⟨⟨Dw,Dx,Dy,Dz⟩,mj,pX,qV,pY,pZ,qW,qX⟩
 have sA:=oj (st:=Lay.iH) Dt Du Dv
 have DC:Dc K mg "Layout" "Layout.__init__" Lay.iH ["self","program"] 74 71 _:=⟨sA,mz X G Dq,sA.binds (fun _ _ _ _ _ _=>(bH.x6 fun _ _=>rfl)),⟨DA,Dr,Ds,DB⟩⟩
 have bS:Run.S3 K 194:=⟨⟨Io,Ip,Iq,Ir⟩,uU,qY⟩
 have xQ:=oj (st:=Run.kN) Ik Il Im
 have Iz:Dc K mg "Frame" "Frame.__init__" Run.kN ["self","call","names"] 194 191 _:=⟨xQ,mz X G Ih,xQ.binds (fun _ _ _ _ _ _=>(bH.R5 fun _ _ _=>rfl)),⟨Iu,Ii,Ij,Iv⟩⟩
 have ag:Run.DS K 215:=⟨⟨z9,z_,Aa,Ab⟩,mm,p_,qa,mq,nA,mv,mw,nB,nC⟩
 have qb:=oj (st:=Run.gC) z6 z7 z8
 have Ae:Dc K mg "Machine" "Machine.__init__" Run.gC ["self","program","most","poke"] 215 212 _:=⟨qb,mz X G zX,qb.binds (fun _ _ _ _ _ _=>(bH.R6 fun _ _ _ _=>rfl)),⟨Ac,zY,zZ,Ad⟩⟩
 have M2:Nm.Mg2 mg:=⟨⟨_,mz X G mz5⟩,⟨_,mz X G mi6⟩,(gk X G dZ),(gk X G Ie),(gk X G iX),(gk X G Sf)⟩
 have MU:SY.MgU w K mg:=⟨(gk X G uT),⟨29,mz X G ac5,⟨_,_,ac6,(by first | rfl | decide),.cons ⟨rfl,⟨_,rfl⟩,.ref 30,rfl,fun _ _=>bX (vs:=[V.int 1]) (.inr ⟨_,_,_,Se,rfl,rfl,Gen.small (by simp),.cons ⟨_,rfl⟩ (.nil)⟩) (az.cons bb (az.nil))⟩ (.cons ⟨rfl,⟨_,rfl⟩,.ref 31,rfl,fun _ _=>bX (vs:=[V.int 2]) (.inr ⟨_,_,_,Sd,rfl,rfl,Gen.small (by simp),.cons ⟨_,rfl⟩ (.nil)⟩) (az.cons bb (az.nil))⟩ (.cons ⟨rfl,⟨_,rfl⟩,.ref 32,rfl,fun _ _=>bX (vs:=[V.int 2,V.int 4]) (.inr ⟨_,_,_,Sb,rfl,rfl,Gen.small (by simp),.cons ⟨_,rfl⟩ (.cons ⟨_,rfl⟩ (.nil))⟩) (az.cons bb (az.cons bb (az.nil)))⟩ (.cons ⟨rfl,⟨_,rfl⟩,.ref 33,rfl,fun _ _=>bX (vs:=[V.int 2,V.int 3]) (.inr ⟨_,_,_,Sa,rfl,rfl,Gen.small (by simp),.cons ⟨_,rfl⟩ (.cons ⟨_,rfl⟩ (.nil))⟩) (az.cons bb (az.cons bb (az.nil)))⟩ (.cons ⟨rfl,⟨_,rfl⟩,.ref 34,rfl,fun _ _=>bX (vs:=[V.int 1,V.int 2,V.int 3]) (.inr ⟨_,_,_,R',rfl,rfl,Gen.small (by simp),.cons ⟨_,rfl⟩ (.cons ⟨_,rfl⟩ (.cons ⟨_,rfl⟩ (.nil)))⟩) (az.cons bb (az.cons bb (az.cons bb (az.nil))))⟩ (.cons ⟨rfl,⟨_,rfl⟩,.ref 35,rfl,fun _ _=>bX (vs:=[V.int 1]) (.inr ⟨_,_,_,R_,rfl,rfl,Gen.small (by simp),.cons ⟨_,rfl⟩ (.nil)⟩) (az.cons bb (az.nil))⟩ (.cons ⟨rfl,⟨_,rfl⟩,.ref 36,rfl,fun _ _=>bX (vs:=[V.int 1]) (.inr ⟨_,_,_,R9,rfl,rfl,Gen.small (by simp),.cons ⟨_,rfl⟩ (.nil)⟩) (az.cons bb (az.nil))⟩ (.nil))))))),by show ([("give" : Str),("put" : Str),("do" : Str),("get" : Str),("set" : Str),("if" : Str),("while" : Str)]).Nodup; decide +kernel⟩⟩⟩
 have MR:l_.Mg w K mg:=⟨⟨_,mz X G mi7⟩,⟨15,mz X G mt8,fun H=>.inr ⟨_,_,_,mu8,rfl,rfl,Gen.small (by simp),.cons ⟨_,rfl⟩ (.cons ⟨_,rfl⟩ (.nil))⟩⟩,(gk X G dZ),(gk X G uR),(gk X G uS),(gk X G gE),(gk X G iX),(gk X G kU),⟨163,(fun o=>match o with | .plus=>127 | .minus=>134 | .times=>141 | .over=>148 | .rest=>155 | .less=>162),(mz X G ac7),(fun o=>match o with | .plus=>(mz X G Mi) | .minus=>(mz X G H_) | .times=>(mz X G Ia) | .over=>(mz X G Mj) | .rest=>(mz X G Ml) | .less=>(mz X G Mm)),⟨_,_,ac8,(by first | rfl | decide),.cons ⟨rfl,⟨_,rfl⟩,.ref 127,rfl,fun _ _=>by simp only [At]⟩ (.cons ⟨rfl,⟨_,rfl⟩,.ref 134,rfl,fun _ _=>by simp only [At]⟩ (.cons ⟨rfl,⟨_,rfl⟩,.ref 141,rfl,fun _ _=>by simp only [At]⟩ (.cons ⟨rfl,⟨_,rfl⟩,.ref 148,rfl,fun _ _=>by simp only [At]⟩ (.cons ⟨rfl,⟨_,rfl⟩,.ref 155,rfl,fun _ _=>by simp only [At]⟩ (.cons ⟨rfl,⟨_,rfl⟩,.ref 162,rfl,fun _ _=>by simp only [At]⟩ (.nil)))))),by show ([("plus" : Str),("minus" : Str),("times" : Str),("over" : Str),("rest" : Str),("less" : Str)]).Nodup; decide +kernel⟩⟩⟩
 have M5:V7.Mg5 K mg:=⟨(gk X G iX),(gk X G kU),(gk X G hY),(gk X G dZ),(gk X G uR),(gk X G uS),(gk X G gE),(gk X G uT),(gk X G Ig),⟨43,mz X G ac1,fun H=>.inr ⟨_,_,_,ac2,rfl,rfl,Gen.small (by simp),.cons ⟨_,rfl⟩ (.cons ⟨_,rfl⟩ (.nil))⟩⟩,⟨42,mz X G ac3,fun H=>.inr ⟨_,_,_,ac4,rfl,rfl,Gen.small (by simp),.cons ⟨_,rfl⟩ (.cons ⟨_,rfl⟩ (.cons ⟨_,rfl⟩ (.nil)))⟩⟩⟩
 have MF:Lay.MgF mg:=⟨(gk X G hY)⟩
 have MLy:Lay.V9 mg:=⟨(gk X G iX),(gk X G Sg)⟩
 have MRu:Run.MgR mg:=⟨(gk X G iX),(gk X G hY),(gk X G gE)⟩
 have kx:Run.MgS K mg:=⟨(gk X G iX),(gk X G gE),⟨16,mz X G mt9,fun H=>.inr ⟨_,_,_,mu9,rfl,rfl,Gen.small (by simp),.cons ⟨_,rfl⟩ (.cons ⟨_,rfl⟩ (.cons ⟨_,rfl⟩ (.nil)))⟩⟩⟩
 have FO:Run.Fos w K mg:=⟨⟨304,247,289,254,261,268,275,282,296,303,(mz X G ac9),(mz X G nz),(mz X G pV),(mz X G pW),(mz X G uQ),⟨_,_,ada,(by first | rfl | decide),.cons ⟨rfl,⟨_,rfl⟩,.ref 247,rfl,fun _ _=>by simp only [At]⟩ (.cons ⟨rfl,⟨_,rfl⟩,.ref 289,rfl,fun _ _=>by simp only [At]⟩ (.cons ⟨rfl,⟨_,rfl⟩,.ref 254,rfl,fun _ _=>by simp only [At]⟩ (.cons ⟨rfl,⟨_,rfl⟩,.ref 261,rfl,fun _ _=>by simp only [At]⟩ (.cons ⟨rfl,⟨_,rfl⟩,.ref 268,rfl,fun _ _=>by simp only [At]⟩ (.cons ⟨rfl,⟨_,rfl⟩,.ref 254,rfl,fun _ _=>by simp only [At]⟩ (.cons ⟨rfl,⟨_,rfl⟩,.ref 275,rfl,fun _ _=>by simp only [At]⟩ (.cons ⟨rfl,⟨_,rfl⟩,.ref 282,rfl,fun _ _=>by simp only [At]⟩ (.cons ⟨rfl,⟨_,rfl⟩,.ref 296,rfl,fun _ _=>by simp only [At]⟩ (.cons ⟨rfl,⟨_,rfl⟩,.ref 303,rfl,fun _ _=>by simp only [At]⟩ (.cons ⟨rfl,⟨_,rfl⟩,.ref 303,rfl,fun _ _=>by simp only [At]⟩ (.nil))))))))))),by show ([("def" : Str),("give" : Str),("put" : Str),("do" : Str),("new" : Str),("get" : Str),("set" : Str),("call" : Str),("fail" : Str),("if" : Str),("while" : Str)]).Nodup; decide +kernel⟩⟩⟩
 have MG:eF.Mg mg:=⟨(gk X G iX),(gk X G kU),(gk X G gE)⟩
 have MA:cV.MgA mg:=⟨(gk X G uR)⟩
 have MB:cV.RG mg:=⟨(gk X G iX),(gk X G kU),(gk X G gE),(gk X G dZ),(gk X G Ie),(gk X G uR),(gk X G uS),(gk X G uT),(gk X G Ig)⟩
 obtain ⟨f0,fd0,D0⟩:=bM (ps:=["thing"]) X G adb (fun _ _ _ _ _ _=>(bH.Dk fun _=>rfl))
 obtain ⟨f1,fd1,D1⟩:=bM (ps:=["thing"]) X G ade (fun _ _ _ _ _ _=>(bH.Dk fun _=>rfl))
 obtain ⟨f2,fd2,D2⟩:=bM (ps:=["row"]) X G adf (fun _ _ _ _ _ _=>(bH.Dk fun _=>rfl))
 obtain ⟨f3,fd3,D3⟩:=bM (ps:=["program"]) X G adg (fun _ _ _ _ _ _=>(bH.Dk fun _=>rfl))
 obtain ⟨f4,fd4,D4⟩:=bM (ps:=["program"]) X G adh (fun _ _ _ _ _ _=>(bH.Dk fun _=>rfl))
 obtain ⟨f5,fd5,D5⟩:=bM (ps:=["layout","place"]) X G adi (fun _ _ _ _ _ _=>(bH.x6 fun _ _=>rfl))
 obtain ⟨f6,fd6,D6⟩:=bM (ps:=["number"]) X G adj (fun _ _ _ _ _ _=>(bH.Dk fun _=>rfl))
 obtain ⟨f7,fd7,D7⟩:=bM (ps:=["value"]) X G adk (fun _ _ _ _ _ _=>(bH.Dk fun _=>rfl))
 obtain ⟨f8,fd8,D8⟩:=bM (ps:=["value"]) X G adl (fun _ _ _ _ _ _=>(bH.Dk fun _=>rfl))
 obtain ⟨f9,fd9,D9⟩:=bM (ps:=["one","other"]) X G adm (fun _ _ _ _ _ _=>(bH.x6 fun _ _=>rfl))
 obtain ⟨f10,ads,D10⟩:=bM (ps:=["one","other"]) X G W5 (fun _ _ _ _ _ _=>(bH.x6 fun _ _=>rfl))
 obtain ⟨f11,adt,D11⟩:=bM (ps:=["one","other"]) X G W6 (fun _ _ _ _ _ _=>(bH.x6 fun _ _=>rfl))
 obtain ⟨f12,adu,D12⟩:=bM (ps:=["one","other"]) X G W7 (fun _ _ _ _ _ _=>(bH.x6 fun _ _=>rfl))
 obtain ⟨f13,adv,D13⟩:=bM (ps:=["one","other"]) X G W8 (fun _ _ _ _ _ _=>(bH.x6 fun _ _=>rfl))
 obtain ⟨f14,adw,D14⟩:=bM (ps:=["one","other"]) X G W9 (fun _ _ _ _ _ _=>(bH.x6 fun _ _=>rfl))
 obtain ⟨f15,adx,D15⟩:=bM (ps:=["one","word","other"]) X G W_ (fun _ _ _ _ _ _=>(bH.R5 fun _ _ _=>rfl))
 obtain ⟨f16,ady,D16⟩:=bM (ps:=["machine","part"]) X G W' (fun _ _ _ _ _ _=>(bH.x6 fun _ _=>rfl))
 obtain ⟨f17,adz,D17⟩:=bM (ps:=["machine","row","used"]) X G Xa (fun _ _ _ _ _ _=>(bH.R5 fun _ _ _=>rfl))
 obtain ⟨f18,adA,D18⟩:=bM (ps:=["machine","row","used","made"]) X G Xb (fun _ _ _ _ _ _=>(bH.R6 fun _ _ _ _=>rfl))
 obtain ⟨f19,adB,D19⟩:=bM (ps:=["machine","row","used","made"]) X G Xc (fun _ _ _ _ _ _=>(bH.R6 fun _ _ _ _=>rfl))
 obtain ⟨f20,adC,D20⟩:=bM (ps:=["machine","row","used","made"]) X G Xd (fun _ _ _ _ _ _=>(bH.R6 fun _ _ _ _=>rfl))
 obtain ⟨f21,adD,D21⟩:=bM (ps:=["machine","row","used","made"]) X G Xe (fun _ _ _ _ _ _=>(bH.R6 fun _ _ _ _=>rfl))
 obtain ⟨f22,adE,D22⟩:=bM (ps:=["machine","place","call","given"]) X G Xf (fun _ _ _ _ _ _=>(bH.R6 fun _ _ _ _=>rfl))
 obtain ⟨f23,adF,D23⟩:=bM (ps:=["machine","row"]) X G Xg (fun _ _ _ _ _ _=>(bH.x6 fun _ _=>rfl))
 obtain ⟨f24,adG,D24⟩:=bM (ps:=["machine"]) X G Xh (fun _ _ _ _ _ _=>(bH.Dk fun _=>rfl))
 obtain ⟨f25,adH,D25⟩:=bM (ps:=["program","inputs","most","poke"]) X G Xi (fun _ _ _ _ _ _=>(bH.R6 fun _ _ _ _=>rfl))
 obtain ⟨f26,adI,D26⟩:=bM (ps:=["_law_script","_law_k"]) X G Xj (fun _ _ _ _ _ _=>(bH.x6 fun _ _=>rfl))
 obtain ⟨f27,adJ,D27⟩:=bM (ps:=["_law_cell","_law_many"]) X G Xk (fun _ _ _ _ _ _=>(bH.x6 fun _ _=>rfl))
 obtain ⟨f28,adK,D28⟩:=bM (ps:=["_law_cell"]) X G Xl (fun _ _ _ _ _ _=>(bH.Dk fun _=>rfl))
 obtain ⟨f29,adL,D29⟩:=bM (ps:=["_law_cell","_law_names_here"]) X G Xm (fun _ _ _ _ _ _=>(bH.x6 fun _ _=>rfl))
 obtain ⟨f30,adM,D30⟩:=bM (ps:=["_law_cell","_law_names_here"]) X G Xn (fun _ _ _ _ _ _=>(bH.x6 fun _ _=>rfl))
 obtain ⟨f31,adN,D31⟩:=bM (ps:=["_law_number_here"]) X G Xo (fun _ _ _ _ _ _=>(bH.Dk fun _=>rfl))
 obtain ⟨f32,adO,D32⟩:=bM (ps:=["_law_one","_law_word","_law_other"]) X G Xp (fun _ _ _ _ _ _=>(bH.R5 fun _ _ _=>rfl))
 obtain ⟨f33,adP,D33⟩:=bM (ps:=["_law_held","_law_operand_here"]) X G Xq (fun _ _ _ _ _ _=>(bH.x6 fun _ _=>rfl))
 obtain ⟨f34,adQ,D34⟩:=bM (ps:=["_law_rows","_law_first","_law_inputs"]) X G Xr (fun _ _ _ _ _ _=>(bH.R5 fun _ _ _=>rfl))
 obtain ⟨f35,adR,D35⟩:=bM (ps:=["_law_told"]) X G Xs (fun _ _ _ _ _ _=>(bH.Dk fun _=>rfl))
 obtain ⟨f36,adS,D36⟩:=bM (ps:=["_law_many","_law_inputs","_law_most"]) X G Xu (fun _ _ _ _ _ _=>(bH.R5 fun _ _ _=>rfl))
 have F:=oj (st:=cV.kS) W2 W3 W4
 have DL:Df K mg "law" cV.kS ["_law_script"] 407 _:=⟨F,hfa,F.binds (fun _ _ _ _ _ _=>WZ fun _=>rfl)⟩
 refine ⟨PySem.W.fnOf "law" "law" (cR cV.kS) (bA cV.kS) (ah cV.kS) .none (.none) (.none) (.str "law_slicewise_k12_straight_rows" 694) none (.ref 406) (.none),fun s v=>.of_eq rfl,fun base _ _=>?_⟩
 have sC:=Nm.K9 (P:=l.prog) (w:=w) (base:=base) D0 M2
 have Af:=Nm.wM (P:=l.prog) (w:=w) (base:=base) D1 M2 sC
 have Ag:=SY.wN (P:=l.prog) (w:=w) (base:=base) D2 MU Af
 have Mn:=V7.GS (P:=l.prog) (w:=w) (base:=base) D3 M5
 have uV:=Lay.qJ (P:=l.prog) (w:=w) (base:=base) D4 MF
 have IA:=Lay.CN (P:=l.prog) (w:=w) (base:=base) DC MLy aB Mn uV
 have kW:=Nx.qK (P:=l.prog) (w:=w) (base:=base) D5 aB
 have Od:=l_.zj (P:=l.prog) (w:=w) (base:=base) D6 MR
 have xS:=l_.uv (P:=l.prog) (w:=w) (base:=base) D7 MR
 have xT:=l_.uw (P:=l.prog) (w:=w) (base:=base) D8 MR xS
 have Sl:=l_.Lo (P:=l.prog) (w:=w) (base:=base) D9 MR
 have Mo:=l_.G7 (P:=l.prog) (w:=w) (base:=base) D10 MR
 have Mp:=l_.G8 (P:=l.prog) (w:=w) (base:=base) D11 MR
 have Sm:=l_.Lr (P:=l.prog) (w:=w) (base:=base) D12 MR
 have Sn:=l_.Ls (P:=l.prog) (w:=w) (base:=base) D13 MR
 have So:=l_.Lu (P:=l.prog) (w:=w) (base:=base) D14 MR
 have Ah:=l_.iK (P:=l.prog) (w:=w) (base:=base) D15 MR Od xT Sl Mo Mp Sm Sn So
 have Mq:=Run.Hc (P:=l.prog) (w:=w) (base:=base) Iz bS
 have Ai:=Run.xh (P:=l.prog) (w:=w) (base:=base) D16 ag bS sC
 have DE:=Run.zo (P:=l.prog) (w:=w) (base:=base) D17 ag Ah
 have iY:=Run.nq (P:=l.prog) (w:=w) (base:=base) D18 (cFrame:=194) ag kW
 have gi:=Run.pD (P:=l.prog) (w:=w) (base:=base) D19 ag bS iY
 have xU:=Run.uD (P:=l.prog) (w:=w) (base:=base) D20 ag gi
 have qZ:=Run.pF (P:=l.prog) (w:=w) (base:=base) D21 ag bS aB gi
 have Mr:=Run.Hg (P:=l.prog) (w:=w) (base:=base) D22 MRu ag bS aB Mq
 have Aj:=Run.xm (P:=l.prog) (w:=w) (base:=base) D23 kx ag FO Ag Ai DE iY gi xU qZ
 have Sq:=Run.LV (P:=l.prog) (w:=w) (base:=base) D24 kx ag aB kW Aj
 have DF:=Run.zL (P:=l.prog) (w:=w) (base:=base) Ae ag IA
 have xV:=Run.uH (P:=l.prog) (w:=w) (base:=base) D25 ag aB DF Mr Od Sq
 have Sr:F8 K "run" "run" Run.e6 324 (PySem.W.fnOf "run" "run" (cR Run.e6) (bA Run.e6) (ah Run.e6) (.ref 317) (.none) (.none) (.str "slicewise.runs" 446) none (.ref 323) (.none)):=⟨⟨_,_,_,_,_,_,_,_,_,_,rfl,Si,Sj⟩,Sk⟩
 have Ss:Binds K (PySem.W.fnOf "run" "run" (cR Run.e6) (bA Run.e6) (ah Run.e6) (.ref 317) (.none) (.none) (.str "slicewise.runs" 446) none (.ref 323) (.none)) ["program","inputs","most"] []:=BA (m:=3) rfl Iw rfl rfl (bH.uP fun _=>(bH.uP fun _=>(bH.uP fun _=>(bH.R4 ⟨_,rfl,rfl⟩))))
 have Su:Binds K (PySem.W.fnOf "run" "run" (cR Run.e6) (bA Run.e6) (ah Run.e6) (.ref 317) (.none) (.none) (.str "slicewise.runs" 446) none (.ref 323) (.none)) ["program","inputs","most"] [.int (200) 678]:=BA (m:=2) rfl Iw rfl rfl (bH.uP fun _=>(bH.uP fun _=>(bH.R4 ⟨_,rfl,rfl⟩)))
 have Oe:=Run.RA (P:=l.prog) (w:=w) (base:=base) Sr (mz X G Sh) Ss Su xV
 have qc:=eF.zO (P:=l.prog) (w:=w) (base:=base) D26 MG
 have uW:=eF.HF (P:=l.prog) (w:=w) (base:=base) D27 MG
 have q_:=eF.C7 (P:=l.prog) (w:=w) (base:=base) D28 MG
 have iZ:=eF.zP (P:=l.prog) (w:=w) (base:=base) D29 MG q_
 have Ak:=cV.RH (P:=l.prog) (w:=w) (base:=base) D30 MB iZ
 have qd:=cV.zj (P:=l.prog) (w:=w) (base:=base) D31
 have nD:=cV.iK (P:=l.prog) (w:=w) (base:=base) D32 MA qd
 have xW:=cV.L4 (P:=l.prog) (w:=w) (base:=base) D33 MB
 have Al:=cV.RM (P:=l.prog) (w:=w) (base:=base) D34 MB qd xW nD
 have kX:=cV.HM (P:=l.prog) (w:=w) (base:=base) D35 MB
 have xX:=cV.L7 (P:=l.prog) (w:=w) (base:=base) D36 MB Oe kX
 exact cV.RU (P:=l.prog) (w:=w) (base:=base) DL MB qc uW iZ Ak Al Oe kX xX
theorem walk {l:PySem.W.OpenLaw} {q:Program} {loose:List Str} {XP:(Str→Option Value)→Heap→Prop} {d:DefRec} {K:World→KFr} (hn:l.most=some 63) (Ui:d.params.defaults=[])
  (F:∀ (w:World) (mg:Str→Option Value) (fa:Addr) (h:Heap),(K w).In h→h.Ns mainGlobals mg→mg d.name=some (.ref fa) →
    ∃ fd:FuncData,(∀ (s:Shared) (u:Value),BindsTo s fd ⟨[u],[]⟩ [("_law_script",u)])∧∀ base:Heap,(K w).In base→base.Ns mainGlobals mg→b_ l.prog w (K w) mg base dI 10 fa fd ["_law_script"] (cT (K w) 1 cV.L9)) :
  PySem.W.WalkO q loose XP (fun w h=>(K w).In h) l.row.toRowW d [] (fun f vs=>PySem.call f vs):=by
 refine XZ.vB hn Ui fun w s₀ s₁ mg mb fa o pm cd doc a vs ns G Y ho hd gn Uj Pe hints hlen hg=>?_
 obtain ⟨fd,hb,hF⟩:=F w mg fa _ Y G.T.g Uj
 exact Ez (CX:=dI) (sp:=cT (K w) 1 cV.L9) (k:=10) Y G.T.g G.T.b G.T.builtins G.T.nolimit hg Pe hints (k0 hlen (by decide)) ⟨rfl,by decide,by decide⟩ hF hb (fun H _ hS =>
  ⟨[.lst (ns.map .int)],[],[],fun _ r=>r = .vw (.bl true),MD,fun _ z=>(nomatch z),fun _ z=>(nomatch z),eV rfl (az.cons (by
     simp only [At]
     refine ⟨a,ns.map V.int,rfl,hS.imp (fun z=>⟨z,fun m=>nomatch m⟩) id,?_⟩
     clear hS
     clear hints hlen
     induction ns with
     | nil=>exact az.nil
     | cons n ns ih=>exact az.cons bb ih) az.nil),⟨ns,rfl,hlen,rfl⟩,fun us r hr v H' _ z=>by
     subst hr
     have:=z.1
     simpa only [At] using this⟩) fun _ _ _ z=>z
end bH
open PySem PySem.W PyProof.Rows
set_option maxRecDepth 100000 in
set_option maxHeartbeats 0 in
theorem PySem.Challenge.cw_slicewise_k12_straight_rows_holds : PySem.Challenge.rw_slicewise_k12_straight_rows.Holds := by
 w_on
 refine PySem.W.holds_law bH.R7 fun R7=>?_
 refine PySem.W.holds_openX (q:=bH.qE) (loose:=bH.pU) (Xt:=HE.Km bH.qE [] []) (XP:=PySem.W.XL bH.qE []) (d:=bH.dE) (kwd:=[]) (N:=6062) bH.hd.1 (fun s e=>PySem.W.xl_of s (Bool.and_eq_true_iff.mp e).1) PySem.W.XL.keeps (by kernel_rfl) (by kernel_rfl) (by kernel_rfl) (fun s e=>PySem.W.recFacts_of (Bool.and_eq_true_iff.mp e).2) (by kernel_rfl) R7 (by kernel_rfl) ⟨rfl,rfl,rfl,rfl,rfl,by decide +kernel⟩ ?hw ?hc
 (case hw=>w_witness2)
 exact HE.Fq (bH.walk (l:=PySem.Challenge.rw_slicewise_k12_straight_rows) (K:=bH.KE) rfl rfl (fun w mg fa h KX G Uj=>bH.R8 KX G Uj (bH.hd.2 w)))
