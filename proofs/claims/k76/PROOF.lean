import PyProof.Rows.All
import Wide.All
import OpenK.AllK
import Wide.FinOn
import Lean
import PyProof.EqAt
import PyProof.EqKinds
import PyProof.TupleCall
import OpenK.ZGo
import PyProof.NeKinds
import PyProof.Rows.SumAny
import PyProof.StrBlockL
import PyProof.StrBlockI
import PyProof.FitsReplace
import KE.KNest
import PyProof.Rows.SeqMore
import PyProof.Rows.TupAdd
import PyProof.Draws
import PyProof.ZipIter
import PyProof.ListNew
import PyProof.Rows.SortStr
import PyProof.Rows.SortWalk
import PyProof.IsRules
import KE.KDictLaws
import PyProof.DictWalks
import PyProof.WalkInts
import PyProof.DictItems
import PyProof.Rows.DictItemsRows
import KE.KPairComp
import PyProof.SeqRoads2
import KE.KRevIter
import PyProof.Conv_bool
import KE.KMinKey
import KE.KIntText
import PySem.Challenge.RW_slicewise_k76_the_fewest_parts
set_option Elab.async false
set_option linter.all false
set_option maxRecDepth 100000
set_option maxHeartbeats 8000000
namespace L2
open PySem PySem.Spec PyProof.Rows
abbrev Key:=Sum Int Str
def keyIs:Key→Value→Bool
 | .inl k,v=>Value.isInt k v
 | .inr x,v=>Value.isStrOf x v
def keyH (w:World):Key→Int
 | .inl k=>hashInt k
 | .inr x=>hashStr w x
theorem keyIs_shape:∀ {k:Key} {v:Value},keyIs k v=true→(∃ i t,k=Sum.inl i∧v=Value.int i t)∨(∃ x t,k=Sum.inr x∧v=Value.str x t)
 | .inl i,v,h=>by
   obtain ⟨t,e⟩:=Value.isInt_shape (k:=i) (v:=v) h
   exact .inl ⟨i,t,rfl,e⟩
 | .inr x,v,h=>by
   obtain ⟨t,e⟩:=Value.isStrOf_shape (x:=x) (v:=v) h
   exact .inr ⟨x,t,rfl,e⟩
theorem key_ll (a b:Int):decide ((Sum.inl a:Key)=Sum.inl b)=(a == b):=by
 by_cases e:a=b
 · subst e; simp
 · have h:¬ (Sum.inl a:Key)=Sum.inl b:=fun q=>e (Sum.inl.inj q)
   rw [decide_eq_false h]
   exact (beq_eq_false_iff_ne.mpr e).symm
theorem key_rr (a b:Str):decide ((Sum.inr a:Key)=Sum.inr b)=decide (a=b):=by
 by_cases e:a=b
 · subst e; simp
 · have h:¬ (Sum.inr a:Key)=Sum.inr b:=fun q=>e (Sum.inr.inj q)
   rw [decide_eq_false h,decide_eq_false e]
theorem key_lr (a:Int) (b:Str):decide ((Sum.inl a:Key)=Sum.inr b)=false:=decide_eq_false (fun q=>nomatch q)
theorem key_rl (a:Str) (b:Int):decide ((Sum.inr a:Key)=Sum.inl b)=false:=decide_eq_false (fun q=>nomatch q)
def mixKind (prog:Program) (w:World):PySem.KeyKind prog w Key where
 is:=keyIs
 hash:=keyH w
 inj:=fun v a b ha hb=>by
  rcases keyIs_shape ha with ⟨i,t,rfl,rfl⟩ | ⟨x,t,rfl,rfl⟩
  · rcases keyIs_shape hb with ⟨j,u,rfl,e⟩ | ⟨y,u,rfl,e⟩
    · injection e with e1 _; rw [e1]
    · exact nomatch e
  · rcases keyIs_shape hb with ⟨j,u,rfl,e⟩ | ⟨y,u,rfl,e⟩
    · exact nomatch e
    · injection e with e1 _; rw [e1]
 byValue:=fun k v h=>by
  rcases keyIs_shape h with ⟨i,t,rfl,rfl⟩ | ⟨x,t,rfl,rfl⟩ <;> rfl
 pyHash:=fun hv h=>by
  rcases keyIs_shape hv with ⟨i,t,rfl,rfl⟩ | ⟨x,t,rfl,rfl⟩
  · exact wpAny_pyHash_int h
  · exact wpAny_pyHash_str h
 eqBool:=fun hu hv h=>by
  rcases keyIs_shape hu with ⟨i,t,rfl,rfl⟩ | ⟨x,t,rfl,rfl⟩
  · rcases keyIs_shape hv with ⟨j,u,rfl,rfl⟩ | ⟨y,u,rfl,rfl⟩
    · rw [key_ll] at h; exact wpAny_eqBool_int h
    · rw [key_lr] at h; exact SeqAt.EqAt.int_str i t y u _ _ _ _ h
  · rcases keyIs_shape hv with ⟨j,u,rfl,rfl⟩ | ⟨y,u,rfl,rfl⟩
    · rw [key_rl] at h; exact SeqAt.EqAt.str_int x t j u _ _ _ _ h
    · rw [key_rr] at h; exact wpAny_eqBool_str h
 «strs»:=fun k x t v h=>by
  rcases keyIs_shape h with ⟨i,u,rfl,e⟩ | ⟨y,u,rfl,e⟩
  · exact nomatch e
  · injection e with e1 _
    subst e1
    cases v <;> rfl
end L2
namespace L2
open PySem PySem.Spec PyProof.Rows
inductive V where
 | non | bl (b:Bool) | int (i:Int) | str (x:Str) | byt (b:Array UInt8) | flt (b:UInt64) | ref (a:Addr) | ty (n:String)
 deriving DecidableEq
def RelV:V→Value→Prop
 | .non,u=>u=Value.none
 | .bl b,u=>u=Value.bool b
 | .int i,u=>∃ t,u=Value.int i t
 | .str x,u=>∃ t,u=Value.str x t
 | .byt b,u=>∃ t,u=Value.bytes b t
 | .flt b,u=>∃ t,u=Value.float b t
 | .ref a,u=>u=Value.ref a
 | .ty n,u=>u=Value.type n
abbrev Vals:List V→List Value→Prop:=Paired RelV
theorem Vals.length {xs:List V} {us:List Value} (r:Vals xs us):xs.length=us.length:=Paired.length r
theorem Vals.get:∀ {xs:List V} {us:List Value} {i:Nat} {x:V},Vals xs us→xs[i]?=some x→∃ u,us[i]?=some u∧RelV x u
 | _,_,_,_,.nil,e=>by simp at e
 | _,_,0,_,.cons r _,e=>by simp at e; subst e; exact ⟨_,rfl,r⟩
 | _,_,i+1,x,.cons _ t,e=>by
   obtain ⟨u,h1,h2⟩:=Vals.get (i:=i) (x:=x) t (by simpa using e)
   exact ⟨u,by simpa using h1,h2⟩
theorem Vals.append:∀ {xs ys:List V} {us ws:List Value},Vals xs us→Vals ys ws→Vals (xs ++ ys) (us ++ ws)
 | _,_,_,_,.nil,s=>s
 | _,_,_,_,.cons r t,s=>.cons r (Vals.append t s)
theorem Vals.take:∀ {xs:List V} {us:List Value} (n:Nat),Vals xs us→Vals (xs.take n) (us.take n)
 | _,_,0,_=>.nil
 | _,_,_+1,.nil=>.nil
 | _,_,n+1,.cons r t=>.cons r (Vals.take n t)
theorem Vals.drop:∀ {xs:List V} {us:List Value} (n:Nat),Vals xs us→Vals (xs.drop n) (us.drop n)
 | _,_,0,r=>r
 | _,_,_+1,.nil=>.nil
 | _,_,n+1,.cons _ t=>Vals.drop n t
def RelO:Option V→Option Value→Prop
 | some v,some u=>RelV v u
 | none,none=>True
 | _,_=>False
def KV {κ:Type}:List (κ×V)→List (κ×Value)→Prop:=Paired fun (p:κ×V) (q:κ×Value)=>p.1=q.1∧RelV p.2 q.2
def kV:Key→V
 | .inl i=>.int i
 | .inr x=>.str x
inductive HO where
 | lst (xs:List V)
 | tup (xs:List V)
 | dK (kvs:List (Key×V)) | dT (kvs:List (List Key×V))
 | set (S:Int→Bool) (n:Nat)
 | ins (C dx:Addr) (fs:List (Str×V))
 | own (x:Addr)
 | xd (fs:List (Str×V))
 | met (f x:Addr)
 | rng (lo hi:Int)
 | frz (o:Obj) (u:HO)
 | tbl (ps:Array Value)
 | ext (φ:Heap→Prop)
abbrev Hp:=Addr→Option HO
def upd (H:Hp) (a:Addr) (o:HO):Hp:=fun b=>if b=a then some o else H b
theorem upd_same {H:Hp} {a:Addr} {o:HO}:upd H a o a=some o:=by unfold upd; rw [if_pos rfl]
theorem upd_ne {H:Hp} {a b:Addr} {o:HO} (h:b≠a):upd H a o b=H b:=by unfold upd; rw [if_neg h]
theorem ne_of {H:Hp} {a b:Addr} {o u:HO} (h:H a=some o) (h':H b=some u) (d:o≠u):a≠b:=by
 intro e; subst e; rw [h] at h'; exact d (Option.some.inj h')
theorem ne_of_none {H:Hp} {a b:Addr} {o:HO} (h:H a=some o) (h':H b=none):a≠b:=by
 intro e; subst e; rw [h] at h'; cases h'
section
variable (P:Program) (w:World)
def ObjOk (H:Hp) (h:Heap) (a:Addr):HO→Prop
 | .lst xs=>xs.length≤sizeLine∧∃ (its:List Value) (n:Nat),Vals xs its∧h.get? a=some { cls:=.type "list",data:=.seq its.toArray n }
 | .tup xs=>xs.length≤sizeLine∧∃ its:List Value,Vals xs its∧IsTup h a its.toArray
 | .dK kvs=>kvs.length≤sizeLine∧(a == sysModules)=false∧∃ vs,KV kvs vs∧h.DictOf (mixKind P w) a vs
 | .dT kvs=>kvs.length≤sizeLine∧(a == sysModules)=false∧∃ xs:List (List Key×Addr×Value),
    Paired (fun (p:List Key×V) (q:List Key×Addr×Value)=>p.1=q.1∧H q.2.1=some (.tup (p.1.map kV))∧RelV p.2 q.2.2) kvs xs ∧
    ∃ o es ep,h.get? a=some o∧o.ExactDict∧o.data = .dict es ep∧es.toList=xs.map (entryOfKey (tupleKind (mixKind P w)))∧(xs.map (·.1)).Nodup
 | .set S n=>h.SetOf (intKind P w) a S n
 | .ins C dx fs=>H dx=some (.own a)∧fs.length≤1000∧dx≠a∧h.get? a=some (PySem.W.instObj C dx) ∧
    ∃ mA,h.Ns1 dx mA∧(∀ f,RelO (fs.lookup f) (mA f))∧PySem.Within mA (fs.map (·.1))
 | .own _=>∃ o,h.get? a=some o
 | .xd fs=>∃ mA,h.Ns1 a mA∧∀ f,RelO (fs.lookup f) (mA f)
 | .rng lo hi=>∃ t u v,h.get? a=some { cls:=.type "range",data:=.fields #[.int lo t,.int hi u,.int 1 v] }
 | .frz o u=>h.get? a=some o∧ObjOk H h a u
 | .tbl ps=>h.get? a=some { cls:=.none,data:=.fields ps }
 | .met f x=>h.get? a=some (PySem.W.methodObj (.ref f) (.ref x))
 | .ext φ=>φ h∧(∃ o,h.get? a=some o)∧∀ h1 h2:Heap,φ h1→(∀ o,h1.get? a=some o→h2.get? a=some o)→φ h2
def HOk (H:Hp) (h:Heap):Prop:=∀ a o,H a=some o→ObjOk P w H h a o
end
section
variable {P:Program} {w:World} {H H':Hp} {h h':Heap} {a:Addr} {o:HO}
theorem ObjOk.lt (x:ObjOk P w H h a o):a < h.objs.size:=by
 cases o with
 | lst xs=>obtain ⟨_,_,_,_,e⟩:=x; exact Heap.lt_size e
 | tup xs=>obtain ⟨_,_,_,p⟩:=x; exact p.lt
 | dK kvs=>obtain ⟨_,_,_,_,o,_,_,e,_⟩:=x; exact Heap.lt_size e
 | dT kvs=>obtain ⟨_,_,_,_,o,_,_,e,_⟩:=x; exact Heap.lt_size e
 | set S n=>obtain ⟨o,_,_,_,e,_⟩:=x; exact Heap.lt_size e
 | ins C dx fs=>obtain ⟨_,_,_,e,_⟩:=x; exact Heap.lt_size e
 | own y=>obtain ⟨_,e⟩:=x; exact Heap.lt_size e
 | xd fs=>obtain ⟨_,⟨_,_,_,e,_⟩,_⟩:=x; exact Heap.lt_size e
 | rng lo hi=>obtain ⟨_,_,_,e⟩:=x; exact Heap.lt_size e
 | frz ob u=>obtain ⟨e,_⟩:=x; exact Heap.lt_size e
 | tbl ps=>exact Heap.lt_size (show h.get? a=some _ from x)
 | met f y=>exact Heap.lt_size (show h.get? a=some _ from x)
 | ext φ=>obtain ⟨_,⟨_,e⟩,_⟩:=x; exact Heap.lt_size e
theorem Paired.mapP {α β:Type} {F G:α→β→Prop}:∀ {l₁:List α} {l₂:List β},Paired F l₁ l₂→(∀ a b,F a b→G a b)→Paired G l₁ l₂
 | _,_,.nil,_=>.nil
 | _,_,.cons r t,f=>.cons (f _ _ r) (Paired.mapP t f)
theorem ObjOk.stay (x:ObjOk P w H h a o) (k:∀ b u,(b=a∨H b=some (.own a))→h.get? b=some u→h'.get? b=some u)
  (ho:∀ b,H b=some (.own a)→H' b=some (.own a)) (ht:∀ b xs,H b=some (.tup xs)→H' b=some (.tup xs)):ObjOk P w H' h' a o:=by
 induction o with
 | lst xs=>obtain ⟨z,its,n,r,e⟩:=x; exact ⟨z,its,n,r,k _ _ (.inl rfl) e⟩
 | tup xs=>obtain ⟨z,its,r,ob,e,c⟩:=x; exact ⟨z,its,r,ob,k _ _ (.inl rfl) e,c⟩
 | dK kvs=>obtain ⟨z,y,vs,r,ob,es,ep,e,c⟩:=x; exact ⟨z,y,vs,r,ob,es,ep,k _ _ (.inl rfl) e,c⟩
 | dT kvs =>
   obtain ⟨z,y,xs,r,ob,es,ep,e,c⟩:=x
   exact ⟨z,y,xs,Paired.mapP r fun p q z=>⟨z.1,ht _ _ z.2.1,z.2.2⟩,ob,es,ep,k _ _ (.inl rfl) e,c⟩
 | set S n=>obtain ⟨ob,es,ep,t,e,c⟩:=x; exact ⟨ob,es,ep,t,k _ _ (.inl rfl) e,c⟩
 | ins C dx fs =>
   obtain ⟨d,z,ne,e,mA,⟨od,es,ep,e2,c⟩,r⟩:=x
   exact ⟨ho _ d,z,ne,k _ _ (.inl rfl) e,mA,⟨od,es,ep,k _ _ (.inr d) e2,c⟩,r⟩
 | own y=>obtain ⟨ob,e⟩:=x; exact ⟨ob,k _ _ (.inl rfl) e⟩
 | xd fs=>obtain ⟨mA,⟨od,es,ep,e,c⟩,r⟩:=x; exact ⟨mA,⟨od,es,ep,k _ _ (.inl rfl) e,c⟩,r⟩
 | rng lo hi=>obtain ⟨t,u,v,e⟩:=x; exact ⟨t,u,v,k _ _ (.inl rfl) e⟩
 | frz ob u ih=>obtain ⟨e,q⟩:=x; exact ⟨k _ _ (.inl rfl) e,ih q⟩
 | tbl ps =>
   have e:h.get? a=some { cls:=.none,data:=.fields ps }:=x
   show h'.get? a=some { cls:=.none,data:=.fields ps }
   exact k a _ (.inl rfl) e
 | met f y =>
   have e:h.get? a=some (PySem.W.methodObj (.ref f) (.ref y)):=x
   show h'.get? a=some (PySem.W.methodObj (.ref f) (.ref y))
   exact k a _ (.inl rfl) e
 | ext φ=>obtain ⟨p,⟨o,e⟩,st⟩:=x; exact ⟨st _ _ p fun o q=>k _ _ (.inl rfl) q,⟨o,k _ _ (.inl rfl) e⟩,st⟩
theorem HOk.lt (x:HOk P w H h) (e:H a=some o):a < h.objs.size:=(x a o e).lt
theorem HOk.fresh (x:HOk P w H h) (e:h.objs.size≤a):H a=none:=by
 cases q:H a with
 | none=>rfl
 | some u=>exact absurd (Nat.lt_of_lt_of_le (x.lt q) e) (Nat.lt_irrefl _)
theorem HOk.kept (x:HOk P w H h) (k:∀ b u,h.get? b=some u→h'.get? b=some u):HOk P w H h':=fun a o e =>
 (x a o e).stay (fun b u _ q=>k b u q) (fun _ q=>q) fun _ _ q=>q
theorem HOk.laid (x:HOk P w H h) (k:∀ b u,h.get? b=some u→h'.get? b=some u) (hp:h.objs.size≤a) (new:ObjOk P w (upd H a o) h' a o):HOk P w (upd H a o) h':=fun b u e=>by
 have hn:=x.fresh hp
 by_cases hb:b=a
 · subst hb; rw [upd_same] at e; cases e; exact new
 · rw [upd_ne hb] at e
   exact (x b u e).stay (fun c v _ q=>k c v q) (fun c q=>by rw [upd_ne (ne_of_none q hn)]; exact q) fun c xs q=>by rw [upd_ne (ne_of_none q hn)]; exact q
end
def Rd (H:Hp) (a:Addr) (u:HO):Prop:=H a=some u∨∃ o,H a=some (.frz o u)
theorem Rd.ok {P:Program} {w:World} {H:Hp} {h:Heap} {a:Addr} {u:HO} (r:Rd H a u) (x:HOk P w H h):ObjOk P w H h a u:=by
 rcases r with r | ⟨o,r⟩
 · exact x a u r
 · obtain ⟨_,q⟩:=x a _ r
   exact q
def Mut:Option HO→Prop
 | some (.lst _)=>True
 | some (.dK _)=>True
 | some (.dT _)=>True
 | some (.set _ _)=>True
 | some (.ins _ _ _)=>True
 | some (.ext _)=>True
 | _=>False
section
variable {P:Program} {w:World} {H:Hp} {h h':Heap} {x e:Addr} {o':HO}
theorem HOk.write (ok:HOk P w H h) (mu:Mut (H x)) (he:e=x∨H e=some (.own x)) (k:∀ b u,b≠e→h.get? b=some u→h'.get? b=some u) (heo:∃ u,h'.get? e=some u)
  (new:ObjOk P w (upd H x o') h' x o'):HOk P w (upd H x o') h':=fun b u q=>by
 have nown:∀ c y,H c=some (.own y)→c≠x:=fun c y r z=>by subst z; rw [r] at mu; exact mu
 have ntup:∀ c xs,H c=some (.tup xs)→c≠x:=fun c xs r z=>by subst z; rw [r] at mu; exact mu
 by_cases hb:b=x
 · subst hb; rw [upd_same] at q; cases q; exact new
 · rw [upd_ne hb] at q
   by_cases hbe:b=e
   · have q':H b=some (.own x):=by
      rcases he with z | z
      · exact absurd (hbe.trans z) hb
      · rw [hbe]; exact z
     rw [q] at q'; cases q'
     obtain ⟨v,hv⟩:=heo
     exact ⟨v,by rw [hbe]; exact hv⟩
   · refine (ok b u q).stay (fun c v hc r=>k c v ?_ r) (fun c r=>by rw [upd_ne (nown c b r)]; exact r) fun c xs r=>by rw [upd_ne (ntup c xs r)]; exact r
     rcases hc with rfl | hc
     · exact hbe
     · rintro rfl
       rcases he with z | z
       · exact nown c b hc z
       · rw [hc] at z; cases z; exact hb rfl
end
structure Un (fs ex:List Addr) (H H':Hp) (h h':Heap):Prop where
 keep:∀ b o,h.get? b=some o→H b=none→b∉fs→b∉ex→h'.get? b=some o
 slot:∀ b o,h.get? b=some o→H b=none→b∈fs→b∉ex→∃ sl,h'.get? b=some { o with slots:=sl }
 free:∀ b o,h.get? b=some o→H b=none→b∉ex→H' b=none
 there:∀ b o,h.get? b=some o→b∉ex→∃ o',h'.get? b=some o'
 tups:∀ b xs,H b=some (.tup xs)→H' b=some (.tup xs)
 frzs:∀ b o u,H b=some (.frz o u)→H' b=some (.frz o u)
 tbls:∀ b ps,H b=some (.tbl ps)→∃ more,H' b=some (.tbl (ps ++ more))
section
variable {fs fs' ex ex':List Addr} {H H1 H2:Hp} {h h1 h2 h':Heap} {a x e:Addr} {o:HO}
theorem Un.any (u:Un fs ex H H1 h h1) {b:Addr} {ob:Obj} (q:h.get? b=some ob) (n:H b=none) (hx:b∉ex):∃ sl,h1.get? b=some { ob with slots:=sl }:=by
 by_cases hb:b∈fs
 · exact u.slot b ob q n hb hx
 · exact ⟨ob.slots,u.keep b ob q n hb hx⟩
theorem Un.kept (k:∀ b u,h.get? b=some u→h'.get? b=some u):Un fs ex H H h h' :=
 ⟨fun b ob q _ _ _=>k b ob q,fun b ob q _ _ _=>⟨ob.slots,k b ob q⟩,fun _ _ _ n _=>n,fun b ob q _=>⟨ob,k b ob q⟩,fun _ _ q=>q,fun _ _ _ q=>q,fun _ ps q=>⟨#[],by rw [q]; simp⟩⟩
theorem Un.refl:Un fs ex H H h h:=Un.kept fun _ _ q=>q
theorem Un.laid (k:∀ b u,h.get? b=some u→h'.get? b=some u) (hp:h.objs.size≤a) (hn:H a=none):Un fs ex H (upd H a o) h h' where
 keep:=fun b u q _ _ _=>k b u q
 slot:=fun b u q _ _ _=>⟨u.slots,k b u q⟩
 free:=fun b u q n _=>by rw [upd_ne (Nat.ne_of_lt (Nat.lt_of_lt_of_le (Heap.lt_size q) hp))]; exact n
 there:=fun b u q _=>⟨u,k b u q⟩
 tups:=fun b xs q=>by rw [upd_ne (ne_of_none q hn)]; exact q
 frzs:=fun b u xs q=>by rw [upd_ne (ne_of_none q hn)]; exact q
 tbls:=fun b ps q=>⟨#[],by rw [upd_ne (ne_of_none q hn),q]; simp⟩
theorem Un.write (mu:Mut (H x)) (he:e=x∨H e=some (.own x)) (k:∀ b u,b≠e→h.get? b=some u→h'.get? b=some u) (heo:∃ u,h'.get? e=some u):Un fs ex H (upd H x o) h h':=by
 have hx:∀ b,H b=none→b≠x:=fun b n z=>by subst z; rw [n] at mu; exact mu
 have hb:∀ b,H b=none→b≠e:=fun b n z=>by
  subst z
  rcases he with r | r
  · exact hx b n r
  · rw [n] at r; cases r
 have hm:∀ b u,H b=some u→¬ Mut (some u)→b≠x:=fun b u q nm z=>by subst z; rw [q] at mu; exact nm mu
 refine ⟨fun b u q n _ _=>k b u (hb b n) q,fun b u q n _ _=>⟨u.slots,k b u (hb b n) q⟩,fun b u q n _=>by rw [upd_ne (hx b n)]; exact n,fun b u q _=>?_,
  fun b xs q=>by rw [upd_ne (hm b _ q fun z=>z)]; exact q,fun b u xs q=>by rw [upd_ne (hm b _ q fun z=>z)]; exact q,fun b ps q=>⟨#[],by rw [upd_ne (hm b _ q fun z=>z),q]; simp⟩⟩
 by_cases hbe:b=e
 · subst hbe; exact heo
 · exact ⟨u,k b u hbe q⟩
end
def trk (h:Heap) (H:Hp):List Addr:=(List.range h.objs.size).filter fun a=>(H a).isSome
def hidT (h:Heap) (H:Hp):Heap:=PySem.W.hideAll h (trk h H)
theorem hidT_size (h:Heap) (H:Hp):(hidT h H).objs.size=h.objs.size:=PySem.W.hideAll_size _ _
theorem hidT_get {h:Heap} {H:Hp} {b:Addr} {o:Obj} (e:h.get? b=some o) (n:H b=none):(hidT h H).get? b=some o :=
 PySem.W.hideAll_get _ e fun hm=>by
  have q:(H b).isSome=true:=(List.mem_filter.mp hm).2
  rw [n] at q; simp at q
theorem of_hidT {h:Heap} {H:Hp} {b:Addr} {o:Obj} (e:(hidT h H).get? b=some o):h.get? b=some o∧H b=none:=by
 have e':h.get? b=some o:=PySem.W.of_hideAll (trk h H) e
 refine ⟨e',?_⟩
 cases q:H b with
 | none=>rfl
 | some x =>
   have hm:b∈trk h H:=List.mem_filter.mpr ⟨List.mem_range.mpr (Heap.lt_size e'),by simp [q]⟩
   have z:(hidT h H).get? b=none:=PySem.W.hideAll_none (trk h H) hm
   rw [z] at e; cases e
def allNews (g h:Heap) (L:Addr):List (Addr×Obj):=(List.range h.objs.size).filterMap fun a=>if a=L∨(g.get? a).isSome=true then none else (h.get? a).map fun o=>(a,o)
def rest (g h:Heap) (L d:Addr):List (Addr×Obj):=(allNews g h L).filter fun p=>decide (p.1≠d)
end L2
namespace L2
open PySem PySem.Spec PyProof.Rows
structure Mod (K:PySem.W.Frag) (mg:Str→Option Value) (base:Heap):Prop where
 kin:K.In base
 glob:base.Ns mainGlobals mg
 blt:∃ mb,base.Ns builtinsNs mb∧∀ x:Str,x≠"__name__"→mb x=bootBuiltins x
 nolimit:base.NoLimit
structure Cx where
 prog:Program
 w:World
 K:PySem.W.Frag
 mg:Str→Option Value
 base:Heap
 A:Around
 N:List Str
 s₀:Shared
 H₀:Hp
 env:Env
 outer:List Env
 stack:List Env
 ex:List Addr
 fn:Str→Bool
 calm:Bool
 pn:List (Addr×Obj)
 xe:Value→Shared→Prop
def frs (l:List Env):List Addr:=l.filterMap (·.frame)
abbrev Cx.fs (X:Cx):List Addr:=frs X.outer
def Vis (sc:Scope) (x:Str):Prop:=sc.names.lookup x=some .local∨sc.names.lookup x=some .cell∨sc.names.lookup x=some .free
def Loc (sc:Scope) (x:Str):Prop:=sc.names.lookup x=some .local∨sc.names.lookup x=some .cell
def Look (env:Env) (h:Heap) (m:Str→Option Value) (x:Str) (u:Value):Prop :=
 (env.kindOf x=some .local∧m x=some u)∨((env.kindOf x=some .cell∨env.kindOf x=some .free)∧∃ c,env.cells.lookup x=some c∧h.IsCell c (some u))
structure Cx.Ok (X:Cx):Prop where
 mod:Mod X.K X.mg X.base
 kind:X.env.scope.kind = .function
 glob:X.env.globals=mainGlobals
 blt:X.env.builtins=builtinsNs
 above:X.s₀.heap.objs.size≤X.env.locals
 inj:∀ x y c,X.env.cells.lookup x=some c→X.env.cells.lookup y=some c→x=y
 has:∀ x,(X.env.kindOf x=some .cell∨X.env.kindOf x=some .free)→∃ c,X.env.cells.lookup x=some c
 cab:∀ x c,X.fn x=true→X.env.cells.lookup x=some c→X.s₀.heap.objs.size≤c
 hd:X.calm=true→X.A.handled=none
 frames:X.A.frames=some X.stack
 stk:X.stack=X.outer∨(X.stack=X.env :: X.outer∧X.env.frame=some X.env.locals)
 exf:∀ b∈X.ex,b≠X.env.locals∧∀ x c,X.env.cells.lookup x=some c→c≠b
 bs:∀ b o,X.base.get? b=some o→X.s₀.heap.get? b=some o∧X.H₀ b=none
 bsz:X.base.objs.size≤X.s₀.heap.objs.size
 noex:∀ b o,X.base.get? b=some o→b∉X.ex
 exfs:∀ b∈X.ex,b∉X.fs
 funs:X.s₀.heap.FunFrames X.base X.outer
 frf:∀ b∈X.fs,X.H₀ b=none
structure Inv (X:Cx) (pins:List (Addr×Obj)) (σ:List (Option V)) (H:Hp) (s:Shared):Prop where
 ok:X.Ok
 os:s.os=X.s₀.os
 bare:AllBare s.gens
 base:Un X.fs X.ex X.H₀ H X.s₀.heap s.heap
 loc:∃ m,s.heap.Ns X.env.locals m∧∀ (i:Nat) (x:Str) (v:V),X.N[i]?=some x→σ[i]?=some (some v)→Vis X.env.scope x→∃ u,RelV v u∧Look X.env s.heap m x u
 cell:∀ x c,X.env.cells.lookup x=some c→∃ v,s.heap.IsCell c v
 free:H X.env.locals=none
 freeC:∀ x c,X.env.cells.lookup x=some c→H c=none
 pin:∀ p∈X.pn ++ pins,s.heap.get? p.1=some p.2∧H p.1=none∧p.1≠X.env.locals∧p.1∉X.fs∧∀ v,p.2.data≠.cell v
 hok:HOk X.prog X.w H s.heap
 len:σ.length=X.N.length
section
variable {X:Cx} {pins:List (Addr×Obj)} {σ:List (Option V)} {H H':Hp} {s:Shared} {h':Heap}
theorem Cx.Ok.nofr (ok:X.Ok) {b:Addr} {o:Obj} (e:X.base.get? b=some o):b∉X.fs:=fun hb=>by
 have:=(ok.funs.mem hb).1
 rw [e] at this; cases this
theorem Inv.bs (I:Inv X pins σ H s):∀ b o,X.base.get? b=some o→s.heap.get? b=some o∧H b=none:=fun b o e =>
 ⟨I.base.keep b o (I.ok.bs b o e).1 (I.ok.bs b o e).2 (I.ok.nofr e) (I.ok.noex b o e),I.base.free b o (I.ok.bs b o e).1 (I.ok.bs b o e).2 (I.ok.noex b o e)⟩
theorem Inv.bk (I:Inv X pins σ H s):∀ b o,X.base.get? b=some o→s.heap.get? b=some o:=fun b o e=>(I.bs b o e).1
theorem Inv.mod (I:Inv X pins σ H s):Mod X.K X.mg X.base:=I.ok.mod
theorem Inv.kIn (I:Inv X pins σ H s):X.K.In s.heap:=I.ok.mod.kin.keeps I.bk
theorem Inv.lt (I:Inv X pins σ H s):X.env.locals < s.heap.objs.size:=let ⟨_,hn,_⟩:=I.loc; hn.lt
theorem Inv.sz (I:Inv X pins σ H s):X.s₀.heap.objs.size≤s.heap.objs.size:=Nat.le_trans I.ok.above (Nat.le_of_lt I.lt)
theorem Inv.nofs (I:Inv X pins σ H s) {a:Addr} (h:s.heap.objs.size≤a):a∉X.fs:=fun hb=>by
 obtain ⟨_,o,ho,_⟩:=I.ok.funs.mem hb
 exact absurd (Nat.lt_of_lt_of_le (Heap.lt_size ho) (Nat.le_trans I.sz h)) (Nat.lt_irrefl _)
theorem Inv.cne (I:Inv X pins σ H s):∀ x c,X.env.cells.lookup x=some c→c≠X.env.locals:=fun x c e z=>by
 obtain ⟨v,o,ho,hd⟩:=I.cell x c e
 obtain ⟨m,⟨o',es,ep,ho',hd',_⟩,_⟩:=I.loc
 rw [z,ho'] at ho; cases ho; rw [hd'] at hd; cases hd
theorem Inv.funs (I:Inv X pins σ H s):s.heap.FunFrames X.base X.outer:=by
 have all:∀ (l:List Env),(∀ b∈frs l,b∈X.fs)→X.s₀.heap.FunFrames X.base l→s.heap.FunFrames X.base l:=by
  intro l
  induction l with
  | nil=>intro _ _; trivial
  | cons env r ih =>
    intro hs hl
    obtain ⟨hk,⟨L,o,hf,hn,ho,hd⟩,hr⟩:=hl
    have hL:L∈X.fs:=hs L (by unfold frs; rw [List.filterMap_cons,hf]; exact List.mem_cons_self)
    obtain ⟨sl,e⟩:=I.base.slot L o ho (I.ok.frf L hL) hL fun z=>I.ok.exfs L z hL
    exact ⟨hk,⟨L,_,hf,hn,e,hd⟩,ih (fun b hb=>hs b (by unfold frs; rw [List.filterMap_cons,hf]; exact List.mem_cons_of_mem _ hb)) hr⟩
 exact all X.outer (fun _ hb=>hb) I.ok.funs
theorem Inv.stack (I:Inv X pins σ H s):s.heap.FunFrames X.base X.stack:=by
 rcases I.ok.stk with e | ⟨e,hf⟩
 · rw [e]; exact I.funs
 · rw [e]
   obtain ⟨m,hn,_⟩:=I.loc
   refine .cons (by rw [I.ok.kind]; decide) hf hn ?_ I.funs
   exact Heap.get?_none_of_le (Nat.le_trans I.ok.bsz I.ok.above)
theorem Inv.stkSub (I:Inv X pins σ H s):∀ b∈frs X.stack,b∈X.env.locals :: X.fs:=fun b hb=>by
 rcases I.ok.stk with e | ⟨e,hf⟩
 · rw [e] at hb; exact List.mem_cons_of_mem _ hb
 · rw [e] at hb
   unfold frs at hb
   rw [List.filterMap_cons,hf] at hb
   exact hb
theorem Inv.stkFree (I:Inv X pins σ H s):∀ b∈frs X.stack,H b=none:=fun b hb=>by
 rcases List.mem_cons.mp (I.stkSub b hb) with e | hb
 · rw [e]; exact I.free
 · obtain ⟨_,o,ho,_⟩:=I.ok.funs.mem hb
   exact I.base.free b o ho (I.ok.frf b hb) fun z=>I.ok.exfs b z hb
theorem Inv.step {g':Array GenState} {t':Nat} {d':Drawn} {ch:List Addr} (I:Inv X pins σ H s)
  (hch:∀ b∈ch,(b∈X.ex∨X.s₀.heap.objs.size≤b)∧b≠X.env.locals∧(∀ x c,X.env.cells.lookup x=some c→c≠b)∧∀ p∈X.pn ++ pins,p.1≠b)
  (keep:∀ b o,b≠X.env.locals→b∉X.fs→b∉ch→s.heap.get? b=some o→H b=none→h'.get? b=some o)
  (slot:∀ b o,b≠X.env.locals→b∈X.fs→b∉ch→s.heap.get? b=some o→H b=none→∃ sl,h'.get? b=some { o with slots:=sl }) (free:∀ b o,b∉ch→s.heap.get? b=some o→H b=none→H' b=none)
  (there:∀ b o,b∉ch→s.heap.get? b=some o→∃ o',h'.get? b=some o')
  (tups:∀ b xs,H b=some (.tup xs)→H' b=some (.tup xs)) (frzs:∀ b o u,H b=some (.frz o u)→H' b=some (.frz o u)) (tbls:∀ b ps,H b=some (.tbl ps)→∃ more,H' b=some (.tbl (ps ++ more)))
  (ns:∀ m,s.heap.Ns X.env.locals m→h'.Ns X.env.locals m) (hok:HOk X.prog X.w H' h') (hg:AllBare g') :
  Inv X pins σ H' { s with heap:=h',gens:=g',drawn:=d',toks:=t' }:=by
 have neL:∀ b o,X.s₀.heap.get? b=some o→b≠X.env.locals:=fun b o e=>Nat.ne_of_lt (Nat.lt_of_lt_of_le (Heap.lt_size e) I.ok.above)
 have neC:∀ b o,X.s₀.heap.get? b=some o→b∉X.ex→b∉ch:=fun b o e hx hb=>by
  rcases (hch b hb).1 with z | z
  · exact hx z
  · exact absurd (Nat.lt_of_lt_of_le (Heap.lt_size e) z) (Nat.lt_irrefl _)
 have cellK:∀ x c,X.env.cells.lookup x=some c→∀ v,s.heap.IsCell c v→h'.IsCell c v:=fun x c e v ⟨o,ho,hd⟩=>by
  have nch:c∉ch:=fun z=>(hch c z).2.2.1 x c e rfl
  by_cases hc:c∈X.fs
  · obtain ⟨sl,q⟩:=slot c o (I.cne x c e) hc nch ho (I.freeC x c e)
    exact ⟨_,q,hd⟩
  · exact ⟨o,keep c o (I.cne x c e) hc nch ho (I.freeC x c e),hd⟩
 refine ⟨I.ok,I.os,hg,⟨fun b o e n hb hx=>?_,fun b o e n hb hx=>?_,fun b o e n hx=>?_,fun b o e hx=>?_,fun b xs e=>tups b xs (I.base.tups b xs e),fun b o xs e=>frzs b o xs (I.base.frzs b o xs e),fun b ps e=>?_⟩,?_,fun x c e=>?_,?_,fun x c e=>?_,fun p hp=>?_,hok,I.len⟩
 · exact keep b o (neL b o e) hb (neC b o e hx) (I.base.keep b o e n hb hx) (I.base.free b o e n hx)
 · obtain ⟨sl,e1⟩:=I.base.slot b o e n hb hx
   obtain ⟨sl',e2⟩:=slot b _ (neL b o e) hb (neC b o e hx) e1 (I.base.free b o e n hx)
   exact ⟨sl',e2⟩
 · obtain ⟨o',e1⟩:=I.base.there b o e hx
   exact free b o' (neC b o e hx) e1 (I.base.free b o e n hx)
 · obtain ⟨o',e1⟩:=I.base.there b o e hx
   exact there b o' (neC b o e hx) e1
 · obtain ⟨m1,e1⟩:=I.base.tbls b ps e
   obtain ⟨m2,e2⟩:=tbls b _ e1
   exact ⟨m1 ++ m2,by rw [e2,Array.append_assoc]⟩
 · obtain ⟨m,hn,hl⟩:=I.loc
   refine ⟨m,ns m hn,fun i x v e1 e2 e3=>?_⟩
   obtain ⟨u,r,l⟩:=hl i x v e1 e2 e3
   refine ⟨u,r,?_⟩
   rcases l with l | ⟨k,c,e,z⟩
   · exact .inl l
   · exact .inr ⟨k,c,e,cellK x c e _ z⟩
 · obtain ⟨v,z⟩:=I.cell x c e
   exact ⟨v,cellK x c e v z⟩
 · obtain ⟨m,⟨o,_,_,ho,_⟩,_⟩:=I.loc
   exact free _ o (fun z=>(hch _ z).2.1 rfl) ho I.free
 · obtain ⟨v,o,ho,hd⟩:=I.cell x c e
   exact free c o (fun z=>(hch c z).2.2.1 x c e rfl) ho (I.freeC x c e)
 · obtain ⟨e,n,ne,nf,d⟩:=I.pin p hp
   have nch:p.1∉ch:=fun z=>(hch p.1 z).2.2.2 p hp rfl
   exact ⟨keep p.1 p.2 ne nf nch e n,free p.1 p.2 nch e n,ne,nf,d⟩
theorem Inv.un {t':Nat} (I:Inv X pins σ H s) (u:Un X.fs [] H H' s.heap h') (hok:HOk X.prog X.w H' h'):Inv X pins σ H' { s with heap:=h',toks:=t' }:=by
 obtain ⟨m,⟨o,es,ep,ho,r⟩,_⟩:=id I.loc
 obtain ⟨sl,hL⟩:=u.any ho I.free (by simp)
 exact I.step (g':=s.gens) (d':=s.drawn) (ch:=[]) (fun _ z=>nomatch z) (fun b o _ hb _ e n=>u.keep b o e n hb (by simp)) (fun b o _ hb _ e n=>u.slot b o e n hb (by simp)) (fun b o _ e n=>u.free b o e n (by simp)) (fun b o _ e=>u.there b o e (by simp)) u.tups u.frzs u.tbls (fun m' hm=>by
  obtain ⟨o',es',ep',ho',r'⟩:=hm
  rw [ho] at ho'; cases ho'
  exact ⟨_,es',ep',hL,r'⟩) hok I.bare
theorem Inv.call {g':Array GenState} {t':Nat} {d':Drawn} {ch:List Addr} (I:Inv X pins σ H s) (u:Un (frs X.stack) ch H H' s.heap h') (hok:HOk X.prog X.w H' h') (hg:AllBare g')
  (hch:∀ b∈ch,(b∈X.ex∨X.s₀.heap.objs.size≤b)∧b≠X.env.locals∧(∀ x c,X.env.cells.lookup x=some c→c≠b)∧∀ p∈X.pn ++ pins,p.1≠b) :
  Inv X pins σ H' { s with heap:=h',gens:=g',drawn:=d',toks:=t' }:=by
 obtain ⟨m,⟨o,es,ep,ho,r⟩,_⟩:=id I.loc
 obtain ⟨sl,hL⟩:=u.any ho I.free fun z=>(hch _ z).2.1 rfl
 exact I.step (ch:=ch) hch (fun b o hL hb hc e n=>u.keep b o e n (fun z=>(List.mem_cons.mp (I.stkSub b z)).elim hL hb) hc) (fun b o _ _ hc e n=>u.any e n hc) (fun b o hc e n=>u.free b o e n hc) (fun b o hc e=>u.there b o e hc) u.tups u.frzs u.tbls (fun m' hm=>by
  obtain ⟨o',es',ep',ho',r'⟩:=hm
  rw [ho] at ho'; cases ho'
  exact ⟨_,es',ep',hL,r'⟩) hok hg
theorem Inv.turned {t':Nat} {it:Addr} (I:Inv X pins σ H s) (k:∀ b o,b≠it→s.heap.get? b=some o→h'.get? b=some o) (hn:H it=none) (hL:it≠X.env.locals)
  (h1:it∈X.ex∨X.s₀.heap.objs.size≤it) (h2:∀ x c,X.env.cells.lookup x=some c→c≠it) (h3:∀ p∈X.pn ++ pins,p.1≠it):Inv X pins σ H { s with heap:=h',toks:=t' }:=by
 have nit:∀ b u,H b=some u→b≠it:=fun b u e z=>by rw [z,hn] at e; cases e
 refine I.step (g':=s.gens) (d':=s.drawn) (ch:=[it]) (fun b hb=>?_) (fun b o _ _ hc e _=>k b o (fun z=>hc (by simp [z])) e) (fun b o _ _ hc e _=>⟨o.slots,k b o (fun z=>hc (by simp [z])) e⟩) (fun _ _ _ _ n=>n)
  (fun b o hc e=>⟨o,k b o (fun z=>hc (by simp [z])) e⟩) (fun _ _ e=>e) (fun _ _ _ e=>e) (fun b ps e=>⟨#[],by rw [e]; simp⟩) (fun m hm=>?_) (fun b u e=>?_) I.bare
 · have e:b=it:=by simpa using hb
   subst e
   exact ⟨h1,hL,h2,h3⟩
 · obtain ⟨o,es,ep,ho,r⟩:=hm
   exact ⟨o,es,ep,k _ o (Ne.symm hL) ho,r⟩
 · refine (I.hok b u e).stay (fun c v hc q=>k c v ?_ q) (fun _ q=>q) fun _ _ q=>q
   rcases hc with z | z
   · rw [z]; exact nit b u e
   · exact nit c _ z
theorem Inv.tok (I:Inv X pins σ H s) (t:Nat):Inv X pins σ H { s with toks:=t }:=I.un (h':=s.heap) (t':=t) Un.refl I.hok
theorem Inv.kept {t':Nat} (I:Inv X pins σ H s) (k:∀ b u,s.heap.get? b=some u→h'.get? b=some u):Inv X pins σ H { s with heap:=h',toks:=t' }:=I.un (Un.kept k) (I.hok.kept k)
theorem Inv.laid {a:Addr} {o:HO} {t':Nat} (I:Inv X pins σ H s) (k:∀ b u,s.heap.get? b=some u→h'.get? b=some u) (hp:s.heap.objs.size≤a) (new:ObjOk X.prog X.w (upd H a o) h' a o) :
 Inv X pins σ (upd H a o) { s with heap:=h',toks:=t' }:=I.un (Un.laid k hp (I.hok.fresh hp)) (I.hok.laid k hp new)
theorem Inv.write {x e:Addr} {o:HO} {t':Nat} (I:Inv X pins σ H s) (mu:Mut (H x)) (he:e=x∨H e=some (.own x)) (k:∀ b u,b≠e→s.heap.get? b=some u→h'.get? b=some u) (heo:∃ u,h'.get? e=some u)
 (new:ObjOk X.prog X.w (upd H x o) h' x o):Inv X pins σ (upd H x o) { s with heap:=h',toks:=t' }:=I.un (Un.write mu he k heo) (I.hok.write mu he k heo new)
theorem Inv.weak {σ':List (Option V)} (I:Inv X pins σ H s) (hl:σ'.length=σ.length) (w:∀ (i:Nat) v,σ'[i]?=some (some v)→σ[i]?=some (some v)):Inv X pins σ' H s :=
 ⟨I.ok,I.os,I.bare,I.base,let ⟨m,hn,hl'⟩:=I.loc; ⟨m,hn,fun i x v e1 e2 e3=>hl' i x v e1 (w i v e2) e3⟩,I.cell,I.free,I.freeC,I.pin,I.hok,hl.trans I.len⟩
theorem Inv.pins_of {pins':List (Addr×Obj)} (I:Inv X pins σ H s) (h:∀ p∈pins',s.heap.get? p.1=some p.2∧H p.1=none∧p.1≠X.env.locals∧p.1∉X.fs∧∀ v,p.2.data≠.cell v):Inv X pins' σ H s :=
 ⟨I.ok,I.os,I.bare,I.base,I.loc,I.cell,I.free,I.freeC,fun p hp=>(List.mem_append.mp hp).elim (fun z=>I.pin p (List.mem_append_left _ z)) (h p),I.hok,I.len⟩
theorem nodup_ix {N:List Str} (hN:N.Nodup) {i j:Nat} {x:Str} (a:N[i]?=some x) (b:N[j]?=some x):i=j:=by
 obtain ⟨h1,e1⟩:=List.getElem?_eq_some_iff.mp a
 obtain ⟨h2,e2⟩:=List.getElem?_eq_some_iff.mp b
 exact (List.getElem_inj hN).mp (e1.trans e2.symm)
theorem store_ok2 {M:Model} {A:Around} {E:Value→Shared→Prop} {i:Nat} {x:Str} {v:V} {u:Value} {Q:Unit→Shared→Prop} (I:Inv X pins σ H s) (hN:X.N.Nodup) (hi:X.N[i]?=some x) (hx:Loc X.env.scope x) (r:RelV v u)
  (h:∀ s',Inv X pins (σ.set i (some v)) H s'→(∃ a,Heap.SameBut a s.heap s'.heap∧(a=X.env.locals∨X.env.cells.lookup x=some a))→Q () s') (hf:X.fn x=true∨X.env.scope.names.lookup x=some .local:=by first | exact .inl rfl | exact .inr rfl | assumption):wpAny M A (storeName X.env x u) Q E s:=by
 obtain ⟨m,hn,hl⟩:=id I.loc
 have hcls:(X.env.scope.kind == .class || (X.env.scope.kind == .module && X.env.locals != X.env.globals))=false:=by rw [I.ok.kind]; rfl
 have hiσ:i < σ.length:=by rw [I.len]; exact (List.getElem?_eq_some_iff.mp hi).1
 have cne:=I.cne
 have tracked:∀ {a:Addr} {h':Heap},(∃ o,s.heap.get? a=some o∧H a=none)→Heap.SameBut a s.heap h'→HOk X.prog X.w H h':=fun {a h'} ha hs b ob e=>by
  obtain ⟨_,_,hfree⟩:=ha
  refine (I.hok b ob e).stay (fun c w' hc q=>(hs.2 c ?_).trans q) (fun _ q=>q) fun _ _ q=>q
  rintro rfl
  rcases hc with rfl | hc
  · rw [hfree] at e; cases e
  · rw [hfree] at hc; cases hc
 rcases hx with hk | hk
 · refine wpAny_storeName_local hk hn (fun h' hn' hs=>?_) hcls
   obtain ⟨oL,_,_,hoL,_⟩:=id hn
   refine h _ ⟨I.ok,I.os,I.bare,⟨fun b o e n hb hx=>?_,fun b o e n hb hx=>?_,I.base.free,fun b o e hx=>?_,I.base.tups,I.base.frzs,I.base.tbls⟩,⟨_,hn',fun j y v' e1 e2 e3=>?_⟩,fun y c e=>?_,I.free,I.freeC,fun p hp=>?_,tracked ⟨oL,hoL,I.free⟩ hs,by simpa using I.len⟩ ⟨_,hs,.inl rfl⟩
   · exact (hs.2 b (Nat.ne_of_lt (Nat.lt_of_lt_of_le (Heap.lt_size e) I.ok.above))).trans (I.base.keep b o e n hb hx)
   · obtain ⟨sl,e1⟩:=I.base.slot b o e n hb hx
     exact ⟨sl,(hs.2 b (Nat.ne_of_lt (Nat.lt_of_lt_of_le (Heap.lt_size e) I.ok.above))).trans e1⟩
   · obtain ⟨o',e1⟩:=I.base.there b o e hx
     exact ⟨o',(hs.2 b (Nat.ne_of_lt (Nat.lt_of_lt_of_le (Heap.lt_size e) I.ok.above))).trans e1⟩
   · by_cases hj:j=i
     · subst hj
       rw [hi] at e1; cases e1
       rw [List.getElem?_set_self hiσ] at e2
       cases e2
       exact ⟨u,r,.inl ⟨hk,by simp⟩⟩
     · rw [List.getElem?_set_ne (Ne.symm hj)] at e2
       obtain ⟨u',r',q⟩:=hl j y v' e1 e2 e3
       refine ⟨u',r',?_⟩
       rcases q with ⟨k,e⟩ | ⟨k,c,e,z⟩
       · refine .inl ⟨k,?_⟩
         have:y≠x:=fun e=>hj (nodup_ix hN e1 (e▸hi))
         simp [this,e]
       · exact .inr ⟨k,c,e,z.sameBut hs (cne y c e)⟩
   · obtain ⟨w',z⟩:=I.cell y c e
     exact ⟨w',z.sameBut hs (cne y c e)⟩
   · obtain ⟨e,n,ne,nf,d⟩:=I.pin p hp
     exact ⟨(hs.2 p.1 ne).trans e,n,ne,nf,d⟩
 · have hfn:X.fn x=true:=by
    rcases hf with z | z
    · exact z
    · rw [z] at hk; cases hk
   obtain ⟨c,hc⟩:=I.ok.has x (.inl hk)
   obtain ⟨w',z⟩:=I.cell x c hc
   refine wpAny_storeName_cell I.ok.kind hk hc z (fun h' hc' hs=>?_)
   obtain ⟨oc,hoc,hocd⟩:=id z
   refine h { s with heap:=h' } ⟨I.ok,I.os,I.bare,⟨fun b o e n hb hx=>?_,fun b o e n hb hx=>?_,I.base.free,fun b o e hx=>?_,I.base.tups,I.base.frzs,I.base.tbls⟩,⟨m,hn.sameBut hs (Ne.symm (cne x c hc)),fun j y v' e1 e2 e3=>?_⟩,fun y c' e=>?_,I.free,I.freeC,fun p hp=>?_,tracked ⟨oc,hoc,I.freeC x c hc⟩ hs,by simpa using I.len⟩ ⟨c,hs,.inr hc⟩
   · exact (hs.2 b (Nat.ne_of_lt (Nat.lt_of_lt_of_le (Heap.lt_size e) (I.ok.cab x c hfn hc)))).trans (I.base.keep b o e n hb hx)
   · obtain ⟨sl,e1⟩:=I.base.slot b o e n hb hx
     exact ⟨sl,(hs.2 b (Nat.ne_of_lt (Nat.lt_of_lt_of_le (Heap.lt_size e) (I.ok.cab x c hfn hc)))).trans e1⟩
   · obtain ⟨o',e1⟩:=I.base.there b o e hx
     exact ⟨o',(hs.2 b (Nat.ne_of_lt (Nat.lt_of_lt_of_le (Heap.lt_size e) (I.ok.cab x c hfn hc)))).trans e1⟩
   · by_cases hj:j=i
     · subst hj
       rw [hi] at e1; cases e1
       rw [List.getElem?_set_self hiσ] at e2
       cases e2
       exact ⟨u,r,.inr ⟨.inl hk,c,hc,hc'⟩⟩
     · rw [List.getElem?_set_ne (Ne.symm hj)] at e2
       obtain ⟨u',r',q⟩:=hl j y v' e1 e2 e3
       refine ⟨u',r',?_⟩
       rcases q with q | ⟨k,c',e,z'⟩
       · exact .inl q
       · refine .inr ⟨k,c',e,z'.sameBut hs ?_⟩
         rintro rfl
         exact hj (nodup_ix hN e1 (I.ok.inj _ _ _ e hc▸hi))
   · by_cases hcc:c'=c
     · subst hcc; exact ⟨_,hc'⟩
     · obtain ⟨w2,z2⟩:=I.cell y c' e
       exact ⟨w2,z2.sameBut hs hcc⟩
   · obtain ⟨e,n,ne,nf,d⟩:=I.pin p hp
     refine ⟨(hs.2 p.1 ?_).trans e,n,ne,nf,d⟩
     intro q
     rw [q,hoc] at e
     have q':oc=p.2:=Option.some.inj e
     exact d w' (by rw [← q']; exact hocd)
theorem store_ok {M:Model} {A:Around} {E:Value→Shared→Prop} {i:Nat} {x:Str} {v:V} {u:Value} {Q:Unit→Shared→Prop} (I:Inv X pins σ H s) (hN:X.N.Nodup) (hi:X.N[i]?=some x) (hx:Loc X.env.scope x) (r:RelV v u)
  (h:∀ s',Inv X pins (σ.set i (some v)) H s'→Q () s') (hf:X.fn x=true∨X.env.scope.names.lookup x=some .local:=by first | exact .inl rfl | exact .inr rfl | assumption):wpAny M A (storeName X.env x u) Q E s :=
 store_ok2 I hN hi hx r (fun s' I' _=>h s' I') hf
theorem Inv.call' {s':Shared} {ch:List Addr} (I:Inv X pins σ H s) (ho:s'.os=s.os) (u:Un (frs X.stack) ch H H' s.heap s'.heap) (hok:HOk X.prog X.w H' s'.heap) (hg:AllBare s'.gens)
  (hch:∀ b∈ch,(b∈X.ex∨X.s₀.heap.objs.size≤b)∧b≠X.env.locals∧(∀ x c,X.env.cells.lookup x=some c→c≠b)∧∀ p∈X.pn ++ pins,p.1≠b):Inv X pins σ H' s':=by
 obtain ⟨h',g',d',t',o'⟩:=s'
 have e:o'=s.os:=ho
 subst e
 exact I.call (g':=g') (t':=t') (d':=d') u hok hg hch
end
abbrev XK:=Value→Option Addr→Hp→Prop
abbrev St:=List (Option V)
abbrev VK:=V→Hp→Prop
abbrev TE:=St→Hp→VK→Prop
abbrev TT:=St→Hp→(Bool→Hp→Prop)→Prop
abbrev TA:=St→Hp→(List V→Hp→Prop)→Prop
structure Ends where
 nx:St→Hp→Prop
 rt:VK
 bk:St→Hp→Prop:=fun _ _=>False
 ct:St→Hp→Prop:=fun _ _=>False
abbrev TS:=Ends→St→Hp→Prop
def EP (X:Cx) (pins:List (Addr×Obj)) (σ:St) (Q:VK) (u:Value) (s':Shared):Prop:=∃ v H',Inv X pins σ H' s'∧RelV v u∧Q v H'
def TP (X:Cx) (pins:List (Addr×Obj)) (σ:St) (Q:Bool→Hp→Prop) (b:Bool) (s':Shared):Prop:=∃ H',Inv X pins σ H' s'∧Q b H'
def AP (X:Cx) (pins:List (Addr×Obj)) (σ:St) (Q:List V→Hp→Prop) (us:List Value) (s':Shared):Prop:=∃ vs H',Inv X pins σ H' s'∧Vals vs us∧Q vs H'
def SP (X:Cx) (pins:List (Addr×Obj)) (D:Ends) (f:Flow) (s':Shared):Prop :=
 match f with
 | .next=>∃ σ' H',Inv X pins σ' H' s'∧D.nx σ' H'
 | .brk=>∃ σ' H',Inv X pins σ' H' s'∧D.bk σ' H'
 | .cont=>∃ σ' H',Inv X pins σ' H' s'∧D.ct σ' H'
 | .ret u=>∃ v σ' H',Inv X pins σ' H' s'∧RelV v u∧D.rt v H'
def PE (X:Cx) (e:Expr) (t:TE):Prop :=
 ∀ (pins:List (Addr×Obj)) (s:Shared) (σ:St) (H:Hp) (Q:VK),Inv X pins σ H s→t σ H Q→wpAny (model X.prog X.w) X.A (eval e X.env) (EP X pins σ Q) X.xe s
def PT (X:Cx) (e:Expr) (t:TT):Prop :=
 ∀ (pins:List (Addr×Obj)) (s:Shared) (σ:St) (H:Hp) (Q:Bool→Hp→Prop),Inv X pins σ H s→t σ H Q→wpAny (model X.prog X.w) X.A (isTrue e X.env (eval e X.env)) (TP X pins σ Q) X.xe s
def PW (X:Cx) (e:Expr) (t:TT):Prop :=
 ∀ (whole:Sem Value) (pins:List (Addr×Obj)) (s:Shared) (σ:St) (H:Hp) (Q:Bool→Hp→Prop),Inv X pins σ H s→t σ H Q→wpAny (model X.prog X.w) X.A (isTrue e X.env whole) (TP X pins σ Q) X.xe s
theorem PW.pt {X:Cx} {e:Expr} {t:TT} (h:PW X e t):PT X e t:=h _
def PA (X:Cx) (es:List Expr) (t:TA):Prop :=
 ∀ (pos:Pos) (pins:List (Addr×Obj)) (s:Shared) (σ:St) (H:Hp) (Q:List V→Hp→Prop),Inv X pins σ H s→t σ H Q→wpAny (model X.prog X.w) X.A (spliced (backTo pos (starEach es X.env))) (AP X pins σ Q) X.xe s
def PS (X:Cx) (st:Stmt) (t:TS):Prop :=
 ∀ (pins:List (Addr×Obj)) (s:Shared) (σ:St) (H:Hp) (D:Ends),Inv X pins σ H s→t D σ H→wpAny (model X.prog X.w) X.A (exec st X.env) (SP X pins D) X.xe s
def PSs (X:Cx) (st:List Stmt) (t:TS):Prop :=
 ∀ (pins:List (Addr×Obj)) (s:Shared) (σ:St) (H:Hp) (D:Ends),Inv X pins σ H s→t D σ H→wpAny (model X.prog X.w) X.A (execs st X.env) (SP X pins D) X.xe s
theorem thn {α:Type} {t:Sem α} {Q Q':α→Shared→Prop} {M:Model} {A:Around} {E:Value→Shared→Prop} {s:Shared} (h:wpAny M A t Q E s) (hQ:∀ a s,Q a s→Q' a s):wpAny M A t Q' E s:=wpAny_mono h hQ fun _ _ x=>x
end L2
namespace L2
open PySem PySem.Spec PyProof.Rows
section
variable {X:Cx}
def tVar (i:Nat):TE:=fun σ H Q=>∃ v,σ[i]?=some (some v)∧Q v H
def tC (v:V):TE:=fun _ H Q=>Q v H
theorem pe_var {i:Nat} {x:Str} {pos:Pos} (hN:X.N[i]?=some x) (hv:Vis X.env.scope x) (hd:(x == ("__debug__" : Str))=false:=by decide) (hcd:(x == ("__classdict__" : Str))=false:=by decide):PE X (.Name x pos) (tVar i):=by
 intro pins s σ H Q I h
 obtain ⟨v,e,h⟩:=h
 obtain ⟨m,hn,hl⟩:=I.loc
 obtain ⟨u,r,l⟩:=hl i x v hN e hv
 have fin:EP X pins σ Q u s:=⟨v,H,I,r,h⟩
 rcases l with ⟨hk,hm⟩ | ⟨hk,c,hc,hcell⟩
 · exact wpAny_Name (wpAny_loadName_local I.ok.kind hk hn hm fin) hd
 · rcases hk with hk | hk
   · exact wpAny_Name (wpAny_loadName_cell I.ok.kind hk hc hcell fin) hd
   · exact wpAny_Name (wpAny_loadName_free I.ok.kind hk hc hcell fin hcd) hd
theorem pe_int {i j pos}:PE X (.Constant (.int i) j pos) (tC (.int i)):=fun _ _ _ H _ I h=>wpAny_Constant_int ⟨.int i,H,I.tok _,⟨_,rfl⟩,h⟩
theorem pe_bl {b j pos}:PE X (.Constant (.bool b) j pos) (tC (.bl b)):=fun _ _ _ H _ I h=>Constant_bool ⟨.bl b,H,I,rfl,h⟩
theorem pe_non {j pos}:PE X (.Constant .none j pos) (tC .non):=fun _ _ _ H _ I h=>Constant_none ⟨.non,H,I,rfl,h⟩
theorem pe_str {x j pos}:PE X (.Constant (.str x) j pos) (tC (.str x)):=fun _ _ _ H _ I h=>Calls.Constant_str ⟨.str x,H,I.tok _,⟨_,rfl⟩,h⟩
def Gl (X:Cx) (x:Str):Prop:=X.env.kindOf x=some .globalImplicit
theorem ld_glob {E:Value→Shared→Prop} {pins:List (Addr×Obj)} {s:Shared} {σ:St} {H:Hp} {x:Str} {u:Value} {pos:Pos} {Q:Value→Shared→Prop} (I:Inv X pins σ H s) (hg:Gl X x) (hm:X.mg x=some u) (h:Q u s)
  (hd:(x == ("__debug__" : Str))=false:=by decide):wpAny (model X.prog X.w) X.A (eval (.Name x pos) X.env) Q E s :=
 Calls.Name_function_global I.ok.kind hg (Calls.loadGlobal_global (by rw [I.ok.glob]; exact I.mod.glob.keeps I.bk) hm h) hd
theorem ld_blt {E:Value→Shared→Prop} {pins:List (Addr×Obj)} {s:Shared} {σ:St} {H:Hp} {x:Str} {u:Value} {pos:Pos} {Q:Value→Shared→Prop} (I:Inv X pins σ H s) (hg:Gl X x) (hm:X.mg x=none) (hv:bootBuiltins x=some u) (h:Q u s)
  (hn:x≠"__name__":=by decide) (hd:(x == ("__debug__" : Str))=false:=by decide):wpAny (model X.prog X.w) X.A (eval (.Name x pos) X.env) Q E s:=by
 obtain ⟨mb,h1,h2⟩:=I.mod.blt
 exact Calls.Name_function_global I.ok.kind hg (Calls.loadGlobal_builtin (by rw [I.ok.glob]; exact I.mod.glob.keeps I.bk) hm (by rw [I.ok.blt]; exact h1.keeps I.bk) ((h2 x hn).trans hv) h) hd
theorem pe_glob {x:Str} {v:V} {u:Value} {pos:Pos} (hg:Gl X x) (hm:X.mg x=some u) (r:RelV v u) (hd:(x == ("__debug__" : Str))=false:=by decide):PE X (.Name x pos) (tC v) :=
 fun _ _ _ H _ I h=>ld_glob I hg hm ⟨v,H,I,r,h⟩ hd
theorem pe_bltn {x:Str} {v:V} {u:Value} {pos:Pos} (hg:Gl X x) (hm:X.mg x=none) (hv:bootBuiltins x=some u) (r:RelV v u) (hn:x≠"__name__":=by decide) (hd:(x == ("__debug__" : Str))=false:=by decide):PE X (.Name x pos) (tC v) :=
 fun _ _ _ H _ I h=>ld_blt I hg hm hv ⟨v,H,I,r,h⟩ hn hd
variable {a b:Expr} {ta tb:TE} {pos:Pos}
def tB (t:TE):TT:=fun σ H Q=>t σ H fun x H1=>∃ c,x = .bl c∧Q c H1
theorem pt_val {e:Expr} {t:TE} (h:PE X e t) (he:∀ whole,isTrue e X.env whole=(do let v ← whole; standAt e.pos; holding [v] (truthy v)):=by intro _; rfl):PT X e (tB t):=by
 intro pins s σ H Q I hw
 refine isTrue_plain (thn (h pins s σ H _ I hw) fun v s1 ⟨x,H1,I1,r1,q1⟩=>?_) (he _)
 obtain ⟨d,rfl,q⟩:=q1
 cases r1
 exact wpAny_truthy_bool ⟨H1,I1,q⟩
variable {tA tB':TT} {rest:List Expr}
def tAnd (t u:TT):TT:=fun σ H Q=>t σ H fun c H1=>if c=true then u σ H1 Q else Q false H1
def tOr (t u:TT):TT:=fun σ H Q=>t σ H fun c H1=>if c=true then Q true H1 else u σ H1 Q
def tNot (t:TT):TT:=fun σ H Q=>t σ H fun c H1=>Q (!c) H1
theorem pw_and1 (ha:PT X a tA):PW X (.BoolOp .And [a] pos) tA:=by
 intro wh pins s σ H Q I h
 refine isTrue_and (thn (ha pins s σ H Q I h) fun c s1 e=>?_)
 cases c with
 | true=>exact isTrue_and_nil e
 | false=>exact e
theorem pw_or1 (ha:PT X a tA):PW X (.BoolOp .Or [a] pos) tA:=by
 intro wh pins s σ H Q I h
 refine isTrue_or (thn (ha pins s σ H Q I h) fun c s1 e=>?_)
 cases c with
 | false=>exact isTrue_or_nil e
 | true=>exact e
theorem pw_and (ha:PT X a tA) (hb:PW X (.BoolOp .And (b :: rest) pos) tB'):PW X (.BoolOp .And (a :: b :: rest) pos) (tAnd tA tB'):=by
 intro wh pins s σ H Q I h
 refine isTrue_and (thn (ha pins s σ H _ I h) fun c s1 ⟨H1,I1,q1⟩=>?_)
 cases c with
 | true=>exact hb wh pins s1 σ H1 Q I1 q1
 | false=>exact ⟨H1,I1,q1⟩
theorem pw_or (ha:PT X a tA) (hb:PW X (.BoolOp .Or (b :: rest) pos) tB'):PW X (.BoolOp .Or (a :: b :: rest) pos) (tOr tA tB'):=by
 intro wh pins s σ H Q I h
 refine isTrue_or (thn (ha pins s σ H _ I h) fun c s1 ⟨H1,I1,q1⟩=>?_)
 cases c with
 | true=>exact ⟨H1,I1,q1⟩
 | false=>exact hb wh pins s1 σ H1 Q I1 q1
theorem pt_not (ha:PT X a tA):PT X (.UnaryOp .Not a pos) (tNot tA):=by
 intro pins s σ H Q I h
 exact isTrue_not (ha pins s σ H (fun c H1=>Q (!c) H1) I h)
def tAndV (ta tb:TE):TE:=fun σ H Q=>ta σ H fun x H1=>∃ c,x = .bl c∧if c=true then tb σ H1 Q else Q (.bl false) H1
def tOrV (ta tb:TE):TE:=fun σ H Q=>ta σ H fun x H1=>∃ c,x = .bl c∧if c=true then Q (.bl true) H1 else tb σ H1 Q
def tNotV (ta:TE):TE:=fun σ H Q=>ta σ H fun x H1=>∃ c,x = .bl c∧Q (.bl (!c)) H1
theorem pe_one {op} {t:TE} (h:PE X a t):PE X (.BoolOp op [a] pos) t:=fun pins s σ H Q I hw=>BoolOp_one (h pins s σ H Q I hw)
theorem pe_and (ha:PE X a ta) (hb:PE X (.BoolOp .And (b :: rest) pos) tb):PE X (.BoolOp .And (a :: b :: rest) pos) (tAndV ta tb):=by
 intro pins s σ H Q I h
 refine BoolOp_and (thn (ha pins s σ H _ I h) fun v s1 ⟨x,H1,I1,r1,q1⟩=>?_)
 obtain ⟨c,rfl,q1⟩:=q1
 cases r1
 refine wpAny_truthy_bool ?_
 cases c with
 | true=>exact hb pins s1 σ H1 Q I1 q1
 | false=>exact ⟨.bl false,H1,I1,rfl,q1⟩
theorem pe_or (ha:PE X a ta) (hb:PE X (.BoolOp .Or (b :: rest) pos) tb):PE X (.BoolOp .Or (a :: b :: rest) pos) (tOrV ta tb):=by
 intro pins s σ H Q I h
 refine BoolOp_or (thn (ha pins s σ H _ I h) fun v s1 ⟨x,H1,I1,r1,q1⟩=>?_)
 obtain ⟨c,rfl,q1⟩:=q1
 cases r1
 refine wpAny_truthy_bool ?_
 cases c with
 | false=>exact hb pins s1 σ H1 Q I1 q1
 | true=>exact ⟨.bl true,H1,I1,rfl,q1⟩
theorem pe_not (ha:PE X a ta):PE X (.UnaryOp .Not a pos) (tNotV ta):=by
 intro pins s σ H Q I h
 refine UnaryOp_ (thn (ha pins s σ H _ I h) fun v s1 ⟨x,H1,I1,r1,q1⟩=>?_)
 obtain ⟨c,rfl,q1⟩:=q1
 cases r1
 exact not_of (wpAny_truthy_bool ⟨.bl (!c),H1,I1,rfl,q1⟩)
end
end L2
namespace L2
open PySem PySem.Spec PyProof.Rows
def SqL (K:PySem.W.Frag) (H:Hp) (a:Addr) (xs:List V):Prop :=
 Rd H a (.lst xs) ∨
  ∃ (o:Obj) (its:Array Value) (n:Nat),K.lookup a=some o∧o.cls = .type "list"∧o.dict=none∧o.data = .seq its n∧its.size≤sizeLine∧Vals xs its.toList
def SqT (K:PySem.W.Frag) (H:Hp) (a:Addr) (xs:List V):Prop :=
 Rd H a (.tup xs) ∨
  ∃ (o:Obj) (its:Array Value) (n:Nat),K.lookup a=some o∧o.cls = .type "tuple"∧o.data = .seq its n∧its.size≤sizeLine∧Vals xs its.toList
def absV:Value→Option V
 | .none=>some .non
 | .bool b=>some (.bl b)
 | .int i _=>some (.int i)
 | .str x _=>some (.str x)
 | .bytes b _=>some (.byt b)
 | .float b _=>some (.flt b)
 | .ref a=>some (.ref a)
 | .type n=>some (.ty n)
 | _=>none
theorem RelV.abs {x:V} {u:Value} (r:RelV x u):absV u=some x:=by
 cases x with
 | non=>cases r; rfl
 | bl _=>cases r; rfl
 | int _=>obtain ⟨t,rfl⟩:=r; rfl
 | str _=>obtain ⟨t,rfl⟩:=r; rfl
 | byt _=>obtain ⟨t,rfl⟩:=r; rfl
 | flt _=>obtain ⟨t,rfl⟩:=r; rfl
 | ref _=>cases r; rfl
 | ty _=>cases r; rfl
theorem RelV.inj {x y:V} {u:Value} (r:RelV x u) (q:RelV y u):x=y:=Option.some.inj (r.abs.symm.trans q.abs)
theorem Vals.inj:∀ {xs ys:List V} {us:List Value},Vals xs us→Vals ys us→xs=ys
 | _,_,_,.nil,.nil=>rfl
 | _,_,_,.cons r t,.cons r' t'=>by rw [r.inj r',Vals.inj t t']
section
variable {X:Cx} {pins:List (Addr×Obj)} {σ:St} {H:Hp} {s:Shared} {a:Addr} {xs ys:List V}
theorem SqL.of {K:PySem.W.Frag} (h:H a=some (.lst xs)):SqL K H a xs:=.inl (.inl h)
theorem SqT.of {K:PySem.W.Frag} (h:H a=some (.tup xs)):SqT K H a xs:=.inl (.inl h)
theorem Inv.list (I:Inv X pins σ H s) (h:SqL X.K H a xs):∃ its:List Value,Vals xs its∧PlainL s.heap a its.toArray∧xs.length≤sizeLine:=by
 rcases h with h | ⟨o,its,n,hk,hc,hd,hs,hz,r⟩
 · obtain ⟨z,its,n,r,e⟩:=h.ok I.hok
   exact ⟨its,r,⟨_,n,e,rfl,rfl,rfl⟩,z⟩
 · refine ⟨its.toList,r,⟨o,n,I.kIn a o hk,hc,hd,by simpa using hs⟩,?_⟩
   have e:=r.length
   simp only [Array.length_toList] at e
   omega
theorem Inv.tuple (I:Inv X pins σ H s) (h:SqT X.K H a xs):∃ its:List Value,Vals xs its∧IsTup s.heap a its.toArray∧xs.length≤sizeLine:=by
 rcases h with h | ⟨o,its,n,hk,hc,hs,hz,r⟩
 · obtain ⟨z,its,r,p⟩:=h.ok I.hok
   exact ⟨its,r,p,z⟩
 · refine ⟨its.toList,r,⟨o,I.kIn a o hk,hc,n,by simpa using hs⟩,?_⟩
   have e:=r.length
   simp only [Array.length_toList] at e
   omega
theorem Inv.list_inj (I:Inv X pins σ H s) (h:SqL X.K H a xs) (h':SqL X.K H a ys):xs=ys:=by
 obtain ⟨its,r,⟨o,n,e,_,_,d⟩,_⟩:=I.list h
 obtain ⟨its',r',⟨o',n',e',_,_,d'⟩,_⟩:=I.list h'
 rw [e] at e'; cases e'
 rw [d] at d'
 injection d' with d1 _
 have:its=its':=by simpa using congrArg Array.toList d1
 subst this
 exact r.inj r'
theorem Inv.tuple_inj (I:Inv X pins σ H s) (h:SqT X.K H a xs) (h':SqT X.K H a ys):xs=ys:=by
 obtain ⟨its,r,⟨o,e,_,n,d⟩,_⟩:=I.tuple h
 obtain ⟨its',r',⟨o',e',_,n',d'⟩,_⟩:=I.tuple h'
 rw [e] at e'; cases e'
 rw [d] at d'
 injection d' with d1 _
 have:its=its':=by simpa using congrArg Array.toList d1
 subst this
 exact r.inj r'
end
abbrev Cx.wish (X:Cx) (E:Value→Shared→Prop):Cx:={ X with xe:=E }
abbrev Cx.nox (X:Cx):Cx:=X.wish fun _ _=>False
theorem Cx.Ok.wish {X:Cx} (ok:X.Ok) (E:Value→Shared→Prop):(X.wish E).Ok :=
 ⟨ok.mod,ok.kind,ok.glob,ok.blt,ok.above,ok.inj,ok.has,ok.cab,ok.hd,ok.frames,ok.stk,ok.exf,ok.bs,ok.bsz,ok.noex,ok.exfs,ok.funs,ok.frf⟩
theorem Cx.Ok.unwish {X:Cx} {E:Value→Shared→Prop} (ok:(X.wish E).Ok):X.Ok :=
 ⟨ok.mod,ok.kind,ok.glob,ok.blt,ok.above,ok.inj,ok.has,ok.cab,ok.hd,ok.frames,ok.stk,ok.exf,ok.bs,ok.bsz,ok.noex,ok.exfs,ok.funs,ok.frf⟩
section
variable {X:Cx} {pins:List (Addr×Obj)} {σ:St} {H:Hp} {s:Shared} {E:Value→Shared→Prop}
theorem Inv.wish (I:Inv X pins σ H s) (E:Value→Shared→Prop):Inv (X.wish E) pins σ H s:=⟨I.ok.wish E,I.os,I.bare,I.base,I.loc,I.cell,I.free,I.freeC,I.pin,I.hok,I.len⟩
theorem Inv.unwish (I:Inv (X.wish E) pins σ H s):Inv X pins σ H s:=⟨I.ok.unwish,I.os,I.bare,I.base,I.loc,I.cell,I.free,I.freeC,I.pin,I.hok,I.len⟩
theorem SP.unwish {D:Ends} {f:Flow} {s':Shared} (h:SP (X.wish E) pins D f s'):SP X pins D f s':=by
 cases f with
 | next=>obtain ⟨σ',H',I,q⟩:=h; exact ⟨σ',H',I.unwish,q⟩
 | brk=>obtain ⟨σ',H',I,q⟩:=h; exact ⟨σ',H',I.unwish,q⟩
 | cont=>obtain ⟨σ',H',I,q⟩:=h; exact ⟨σ',H',I.unwish,q⟩
 | ret u=>obtain ⟨v,σ',H',I,r,q⟩:=h; exact ⟨v,σ',H',I.unwish,r,q⟩
theorem PSs.nox {st:List Stmt} {t:TS} (h:PSs X.nox st t):PSs X st t:=fun pins s σ H D I hw =>
 wpAny_mono (h pins s σ H D (I.wish _) hw) (fun _ _ q=>q.unwish) fun _ _ z=>False.elim z
end
section
variable {X:Cx} {st:Stmt} {rest:List Stmt} {t u:TS} {e:Expr} {te:TE} {pos:Pos}
def tNext:TS:=fun D σ H=>D.nx σ H
def tSeq (t u:TS):TS:=fun D σ H=>t { D with nx:=u D } σ H
theorem pss_nil:PSs X [] tNext:=fun _ _ σ H _ I h=>wpAny_execs_nil ⟨σ,H,I,h⟩
theorem pss_cons (h1:PS X st t) (h2:PSs X rest u):PSs X (st :: rest) (tSeq t u):=by
 intro pins s σ H D I h
 refine wpAny_execs_cons (thn (h1 pins s σ H { D with nx:=u D } I h) fun f s1 q=>?_)
 cases f with
 | next =>
   obtain ⟨σ',H',I',q⟩:=q
   exact h2 pins s1 σ' H' D I' q
 | ret v=>exact q
 | brk=>exact q
 | cont=>exact q
theorem pss_one (h1:PS X st t):PSs X [st] t:=by
 intro pins s σ H D I h
 refine wpAny_execs_cons (thn (h1 pins s σ H D I h) fun f s1 q=>?_)
 cases f with
 | next=>exact wpAny_execs_nil q
 | ret v=>exact q
 | brk=>exact q
 | cont=>exact q
theorem Inv.quiet {pins:List (Addr×Obj)} {σ:St} {H:Hp} {s:Shared} (I:Inv X pins σ H s):interactive X.env=false:=by simp [interactive,I.ok.kind]
def tDrop (te:TE):TS:=fun D σ H=>te σ H fun _ H1=>D.nx σ H1
theorem ps_expr (he:PE X e te) (hs:swapsWith e none pos.line X.env=pure false:=by rfl):PS X (.Expr e pos) (tDrop te):=by
 intro pins s σ H D I h
 exact wpAny_Expr_any (thn (he pins s σ H _ I h) fun v s1 ⟨x,H1,I1,r1,q1⟩=>⟨σ,H1,I1,q1⟩) I.quiet hs
def tRet (te:TE):TS:=fun D σ H=>te σ H D.rt
theorem ps_ret (he:PE X e te):PS X (.Return (some e) pos) (tRet te):=by
 intro pins s σ H D I h
 exact wpAny_Return_some (thn (he pins s σ H _ I h) fun v s1 ⟨x,H1,I1,r1,q1⟩=>⟨x,σ,H1,I1,r1,q1⟩)
def tIfS (c:TT) (t u:TS):TS:=fun D σ H=>c σ H fun b H1=>if b=true then t D σ H1 else u D σ H1
theorem ps_if {c:Expr} {a b:List Stmt} {tc:TT} (hc:PT X c tc) (ha:PSs X a t) (hb:PSs X b u):PS X (.If c a b pos) (tIfS tc t u):=by
 intro pins s σ H D I h
 refine wpAny_If (thn (hc pins s σ H _ I h) fun d s1 ⟨H1,I1,q1⟩=>?_)
 cases d with
 | true=>exact ha pins s1 σ H1 D I1 q1
 | false=>exact hb pins s1 σ H1 D I1 q1
end
abbrev TG:=V→St→Hp→(St→Hp→Prop)→Prop
abbrev TGs:=List V→St→Hp→(St→Hp→Prop)→Prop
def PG (X:Cx) (target:Expr) (t:TG):Prop :=
 ∀ (pins:List (Addr×Obj)) (s:Shared) (σ:St) (H:Hp) (v:V) (u:Value) (Q:St→Hp→Prop),Inv X pins σ H s→RelV v u→t v σ H Q →
  wpAny (model X.prog X.w) X.A (assign target X.env u) (fun _ s'=>∃ σ' H',Inv X pins σ' H' s'∧Q σ' H') X.xe s
def PGs (X:Cx) (ts:List Expr) (t:TGs):Prop :=
 ∀ (pins:List (Addr×Obj)) (s:Shared) (σ:St) (H:Hp) (vs:List V) (us:List Value) (Q:St→Hp→Prop),Inv X pins σ H s→Vals vs us→t vs σ H Q →
  wpAny (model X.prog X.w) X.A (assignInOrder ((assignEach ts X.env).map (·.2)) us) (fun _ s'=>∃ σ' H',Inv X pins σ' H' s'∧Q σ' H') X.xe s
section
variable {X:Cx} {pos:Pos}
def gName (i:Nat):TG:=fun v σ H Q=>Q (σ.set i (some v)) H
theorem pg_name {i:Nat} {x:Str} (hN:X.N.Nodup) (hi:X.N[i]?=some x) (hx:Loc X.env.scope x) (hf:X.fn x=true∨X.env.scope.names.lookup x=some .local:=by first | exact .inl rfl | exact .inr rfl | assumption):PG X (.Name x pos) (gName i):=by
 intro pins s σ H v u Q I r h
 exact wpAny_assign_Name (store_ok I hN hi hx r (fun s' I'=>⟨_,H,I',h⟩) hf)
def gNil:TGs:=fun vs σ H Q=>vs=[]∧Q σ H
def gCons (t:TG) (u:TGs):TGs:=fun vs σ H Q=>∃ v r,vs=v :: r∧t v σ H fun σ' H'=>u r σ' H' Q
theorem pgs_nil:PGs X [] gNil:=by
 intro pins s σ H vs us Q I r h
 obtain ⟨e,h⟩:=h
 subst e
 cases r
 exact assignInOrder_nil ⟨σ,H,I,h⟩
theorem pgs_cons {e:Expr} {es:List Expr} {t:TG} {u:TGs} (h1:PG X e t) (h2:PGs X es u)
  (hs:(assignEach (e :: es) X.env).map (·.2)=assign e X.env :: (assignEach es X.env).map (·.2):=by rfl):PGs X (e :: es) (gCons t u):=by
 intro pins s σ H vs us Q I r h
 obtain ⟨v,vr,e1,h⟩:=h
 subst e1
 cases r with
 | cons r rr =>
   rw [hs]
   refine assignInOrder_cons (thn (h1 pins s σ H _ _ _ I r h) fun _ s1 ⟨σ1,H1,I1,q1⟩=>?_)
   exact h2 pins s1 σ1 H1 _ _ Q I1 rr q1
def gTup (K:PySem.W.Frag) (n:Nat) (t:TGs):TG:=fun v σ H Q=>∃ a xs,v = .ref a∧SqT K H a xs∧xs.length=n∧t xs σ H Q
theorem pg_tup {es:List Expr} {k:Nat} {t:TGs} {n:Nat} (hc:X.calm=true) (h:PGs X es t)
  (hn:(assignEach es X.env).length=n:=by rfl) (hst:(assignEach es X.env).findIdx? (·.1)=none:=by rfl):PG X (.Tuple es k pos) (gTup X.K n t):=by
 intro pins s σ H v u Q I r hw
 obtain ⟨a,xs,e1,hq,hl,hw⟩:=hw
 subst e1
 cases r
 obtain ⟨its,rv,ht,hz⟩:=I.tuple hq
 refine assign_Tuple_tuple (I.ok.hd hc) ht (by simp [hn,← hl,rv.length]) hst fun h' hx=>?_
 have I1:Inv X pins σ H { s with heap:=h' }:=I.kept (t':=s.toks) fun b o e=>hx b o (Nat.ne_of_lt (Heap.lt_size e)) e
 exact h pins _ σ H xs _ Q I1 (by simpa using rv) hw
def tAsg (te:TE) (g:TG):TS:=fun D σ H=>te σ H fun x H1=>g x σ H1 D.nx
theorem ps_set {i:Nat} {x:Str} {e:Expr} {te:TE} {pos':Pos} (hN:X.N.Nodup) (hi:X.N[i]?=some x) (hx:Loc X.env.scope x) (he:PE X e te) (hs:swapsWith e (some (.Name x pos')) pos.line X.env=pure false:=by rfl) (hf:X.fn x=true∨X.env.scope.names.lookup x=some .local:=by first | exact .inl rfl | exact .inr rfl | assumption) :
  PS X (.Assign [.Name x pos'] e pos) (tAsg te (gName i)):=by
 intro pins s σ H D I h
 refine wpAny_Assign_Name (thn (he pins s σ H _ I h) fun v s1 ⟨y,H1,I1,r1,q1⟩=>?_) hs
 exact store_ok I1 hN hi hx r1 (fun s2 I2=>⟨_,H1,I2,q1⟩) hf
end
section
variable {X:Cx} {pos:Pos}
def tWhile (c:TT) (tb:TS):TS:=fun D σ H=>∃ W:Nat→St→Hp→Prop,(∃ m,W m σ H)∧∀ m σ H,W m σ H →
 c σ H fun b H1=>if b=true then ∃ N:St→Hp→Prop,(∀ σ' H',N σ' H'→∃ m',m' < m∧W m' σ' H')∧tb { D with nx:=N,ct:=N,bk:=D.nx } σ H1 else D.nx σ H1
theorem ps_while {c:Expr} {body:List Stmt} {tc:TT} {tb:TS} (hp:PassesOwn (model X.prog X.w) X.A X.env X.xe) (hc:PT X c tc) (hb:PSs X body tb):PS X (.While c body [] pos) (tWhile tc tb):=by
 intro pins s σ H D I h
 obtain ⟨W,⟨m0,w0⟩,turn⟩:=h
 refine wpAny_While (codeAny_whileLoop (fun n s'=>∃ σ' H',Inv X pins σ' H' s'∧W n σ' H') ?_ m0 ⟨σ,H,I,w0⟩)
 rintro n s1 ⟨σ1,H1,I1,w1⟩
 refine wpAny_passesOwn hp (thn (hc pins s1 σ1 H1 _ I1 (turn n σ1 H1 w1)) fun b s2 ⟨H2,I2,q2⟩=>?_)
 cases b with
 | true =>
   obtain ⟨N,hN,q2⟩:=q2
   rw [if_pos rfl]
   refine wpAny_passesOwn hp (thn (hb pins s2 σ1 H2 _ I2 q2) fun f s3 q3=>?_)
   cases f with
   | next =>
     obtain ⟨σ3,H3,I3,n3⟩:=q3
     obtain ⟨m',hm,w3⟩:=hN σ3 H3 n3
     exact ⟨m',hm,σ3,H3,I3,w3⟩
   | cont =>
     obtain ⟨σ3,H3,I3,n3⟩:=q3
     obtain ⟨m',hm,w3⟩:=hN σ3 H3 n3
     exact ⟨m',hm,σ3,H3,I3,w3⟩
   | brk=>exact q3
   | ret v=>exact q3
 | false =>
   rw [if_neg Bool.false_ne_true]
   exact wpAny_execs_nil ⟨σ1,H2,I2,q2⟩
end
structure It where
 go:Nat→Hp→Prop
 yld:Nat→Hp→V→Hp→Prop
 stop:Nat→Hp→Prop
def FpOk (X:Cx) (pins:List (Addr×Obj)) (H:Hp) (b:Addr):Prop :=
 H b=none∧b≠X.env.locals∧b∉X.fs∧(b∈X.ex∨X.s₀.heap.objs.size≤b)∧(∀ x c,X.env.cells.lookup x=some c→c≠b)∧∀ p∈X.pn ++ pins,p.1≠b
theorem Inv.fpOk {X:Cx} {pins:List (Addr×Obj)} {σ:St} {H H':Hp} {s:Shared} {b:Addr} (I:Inv X pins σ H s) (hb:s.heap.objs.size≤b) (hn:H' b=none):FpOk X pins H' b:=by
 refine ⟨hn,Nat.ne_of_gt (Nat.lt_of_lt_of_le I.lt hb),I.nofs hb,.inr (Nat.le_trans I.sz hb),fun x c e z=>?_,fun p hp z=>?_⟩
 · obtain ⟨v,q⟩:=I.cell x c e
   exact absurd (Nat.lt_of_lt_of_le q.lt (by rw [z]; exact hb)) (Nat.lt_irrefl _)
 · exact absurd (Nat.lt_of_lt_of_le (Heap.lt_size (I.pin p hp).1) (by rw [z]; exact hb)) (Nat.lt_irrefl _)
structure Turn (P:Program) (w:World) (K:PySem.W.Frag) (tg:Expr) (J:It) (fp:List Addr) (it:Addr) (tn:Nat→Heap→Prop):Prop where
 mem:it∈fp
 obj:∀ i h,tn i h→∀ b∈fp,∃ o,h.get? b=some o∧∀ v,o.data≠.cell v
 keep:∀ i h h',tn i h→(∀ b∈fp,∀ o,h.get? b=some o→h'.get? b=some o)→tn i h'
 item:∀ (X:Cx),X.prog=P→X.w=w→X.K=K→X.calm=true→∀ (i:Nat) (pins:List (Addr×Obj)) (s:Shared) (σ:St) (H:Hp) (E:Value→Shared→Prop),Inv X pins σ H s→(∀ b∈fp,FpOk X pins H b)→tn i s.heap→J.go i H →
  wpAny (model P w) X.A (pyNext (.ref it)) (fun r s1=>∃ u,r=some u ∧
   wpAny (model P w) X.A (letOwnedTupleGo tg (.ref it) u) (fun _ s2=>∃ x H',Inv X pins σ H' s2∧RelV x u∧J.yld i H x H'∧tn (i+1) s2.heap∧∀ b∈fp,H' b=none) E s1) E s
 done:∀ (X:Cx),X.prog=P→X.w=w→X.K=K→X.calm=true→∀ (i:Nat) (pins:List (Addr×Obj)) (s:Shared) (σ:St) (H:Hp) (E:Value→Shared→Prop),Inv X pins σ H s→(∀ b∈fp,FpOk X pins H b)→tn i s.heap→J.stop i H →
  wpAny (model P w) X.A (pyNext (.ref it)) (fun r s1=>r=none∧Inv X pins σ H s1) E s
 self:∀ (A:Around) (i:Nat) (s:Shared) (Q:Value→Shared→Prop) (E:Value→Shared→Prop),tn i s.heap→Q (.ref it) s→wpAny (model P w) A (pyIter (.ref it)) Q E s
abbrev TI:=St→Hp→(It→Hp→Prop)→Prop
def PIE (X:Cx) (pins:List (Addr×Obj)) (σ:St) (tg:Expr) (R:It→Hp→Prop) (itv:Value) (s2:Shared):Prop :=
 ∃ (it:Addr) (fp:List Addr) (tn:Nat→Heap→Prop) (J:It) (H':Hp),itv = .ref it∧Inv X pins σ H' s2∧Turn X.prog X.w X.K tg J fp it tn∧tn 0 s2.heap∧(∀ b∈fp,FpOk X pins H' b)∧R J H'
def PI (X:Cx) (tg iter:Expr) (wi:TI):Prop :=
 ∀ (pins:List (Addr×Obj)) (s:Shared) (σ:St) (H:Hp) (R:It→Hp→Prop),Inv X pins σ H s→wi σ H R →
  wpAny (model X.prog X.w) X.A (eval iter X.env) (fun v s1=>wpAny (model X.prog X.w) X.A (pyIter v) (PIE X pins σ tg R) X.xe s1) X.xe s
theorem go_of {M:Model} {A:Around} {E:Value→Shared→Prop} {s:Shared} {tg:Expr} {it:Addr} {u:Value} {o:Obj} {n:String} {vs:Array Value} {Q:Unit→Shared→Prop} (ho:s.heap.get? it=some o) (hc:o.cls = .type n) (hd:o.data = .fields vs)
  (hn:["enumerate","zip","dict_itemiterator","dict_reverseitemiterator","odict_iterator","itertools.zip_longest","itertools.pairwise"].contains n=false) (hQ:Q () s):wpAny M A (letOwnedTupleGo tg (.ref it) u) Q E s:=by
 unfold letOwnedTupleGo
 cases tg <;> first
  | exact wpAny_pure hQ
  | (cases u <;> first
      | exact wpAny_pure hQ
      | (refine wpAny_bind (wpAny_load ho ?_)
         rw [hc,hd]
         show wpAny M A (if (["enumerate","zip","dict_itemiterator","dict_reverseitemiterator","odict_iterator","itertools.zip_longest","itertools.pairwise"].contains n && vs[0]? == some (rawInt _))=true then _ else _) Q E s
         rw [if_neg (by intro h; rw [hn,Bool.false_and] at h; cases h)]
         exact wpAny_pure hQ))
def Itl (K:PySem.W.Frag) (a:Addr):It :=
 ⟨fun i H=>∃ xs x,SqL K H a xs∧xs[i]?=some x,fun i H x H'=>H'=H∧∀ xs,SqL K H a xs→xs[i]?=some x,fun i H=>∃ xs,SqL K H a xs∧xs.length≤i⟩
def Itt (K:PySem.W.Frag) (a:Addr):It :=
 ⟨fun i H=>∃ xs x,SqT K H a xs∧xs[i]?=some x,fun i H x H'=>H'=H∧∀ xs,SqT K H a xs→xs[i]?=some x,fun i H=>∃ xs,SqT K H a xs∧xs.length≤i⟩
theorem turn_list {P:Program} {w:World} {K:PySem.W.Frag} {tg:Expr} (a it:Addr):Turn P w K tg (Itl K a) [it] it (fun i h=>h.IsListIter it a i) where
 mem:=by simp
 obj:=fun i h st b hb=>by
  have e:b=it:=by simpa using hb
  subst e
  obtain ⟨o,e,c,d⟩:=st
  exact ⟨o,e,fun v z=>by rw [d] at z; cases z⟩
 keep:=fun i h h' st k=>st.at fun o e=>k it (by simp) o e
 item:=by
  intro X hP hw hK hc i pins s σ H E I hf st hg
  subst hP hw hK
  obtain ⟨xs,x,hq,hx⟩:=hg
  obtain ⟨its,rv,p,hz⟩:=I.list hq
  obtain ⟨u,hu,ru⟩:=rv.get hx
  obtain ⟨f0,f1,f2,f3,f4,f5⟩:=hf it (by simp)
  refine wpAny_pyNext_list_item st p.isList (x:=u) (by simpa using hu) fun h' st' sb=>?_
  have I1:Inv X pins σ H { s with heap:=h' }:=I.turned (t':=s.toks) (fun b o hb e=>(sb.2 b hb).trans e) f0 f1 f3 f4 f5
  obtain ⟨o,e,c,d⟩:=id st'
  exact ⟨u,rfl,go_of (s:={ s with heap:=h' }) e c d (by decide) ⟨x,H,I1,ru,⟨rfl,fun ys hy=>by rw [I.list_inj hy hq]; exact hx⟩,st',fun b hb=>(hf b hb).1⟩⟩
 done:=by
  intro X hP hw hK hc i pins s σ H E I hf st hg
  subst hP hw hK
  obtain ⟨xs,hq,hx⟩:=hg
  obtain ⟨its,rv,p,hz⟩:=I.list hq
  obtain ⟨f0,f1,f2,f3,f4,f5⟩:=hf it (by simp)
  have hl:=rv.length
  exact wpAny_pyNext_list_end (I.ok.hd hc) st p.isList (by simp; omega) fun h' eb=>⟨rfl,I.turned (t':=s.toks) (fun b o hb e=>eb b o hb e) f0 f1 f3 f4 f5⟩
 self:=fun _ _ _ _ _ st h=>wpAny_pyIter_listiter st h
theorem turn_tuple {P:Program} {w:World} {K:PySem.W.Frag} {tg:Expr} (a it:Addr):Turn P w K tg (Itt K a) [it] it (fun i h=>h.IsTupleIter it a i) where
 mem:=by simp
 obj:=fun i h st b hb=>by
  have e:b=it:=by simpa using hb
  subst e
  obtain ⟨o,e,c,d⟩:=st
  exact ⟨o,e,fun v z=>by rw [d] at z; cases z⟩
 keep:=fun i h h' st k=>st.at fun o e=>k it (by simp) o e
 item:=by
  intro X hP hw hK hc i pins s σ H E I hf st hg
  subst hP hw hK
  obtain ⟨xs,x,hq,hx⟩:=hg
  obtain ⟨its,rv,p,hz⟩:=I.tuple hq
  obtain ⟨u,hu,ru⟩:=rv.get hx
  obtain ⟨f0,f1,f2,f3,f4,f5⟩:=hf it (by simp)
  refine wpAny_pyNext_tuple_item st (show s.heap.IsTuple a its.toArray from p) (x:=u) (by simpa using hu) fun h' st' sb=>?_
  have I1:Inv X pins σ H { s with heap:=h' }:=I.turned (t':=s.toks) (fun b o hb e=>(sb.2 b hb).trans e) f0 f1 f3 f4 f5
  obtain ⟨o,e,c,d⟩:=id st'
  exact ⟨u,rfl,go_of (s:={ s with heap:=h' }) e c d (by decide) ⟨x,H,I1,ru,⟨rfl,fun ys hy=>by rw [I.tuple_inj hy hq]; exact hx⟩,st',fun b hb=>(hf b hb).1⟩⟩
 done:=by
  intro X hP hw hK hc i pins s σ H E I hf st hg
  subst hP hw hK
  obtain ⟨xs,hq,hx⟩:=hg
  obtain ⟨its,rv,p,hz⟩:=I.tuple hq
  obtain ⟨f0,f1,f2,f3,f4,f5⟩:=hf it (by simp)
  have hl:=rv.length
  exact wpAny_pyNext_tuple_end (I.ok.hd hc) st (show s.heap.IsTuple a its.toArray from p) (by simp; omega) fun h' eb=>⟨rfl,I.turned (t':=s.toks) (fun b o hb e=>eb b o hb e) f0 f1 f3 f4 f5⟩
 self:=fun _ _ _ _ _ st h=>wpAny_pyIter_tupleiter st h
end L2
namespace L2
open PySem PySem.Spec PyProof.Rows
section
variable {X:Cx} {tg:Expr}
def tFor (wi:TI) (g:TG) (tb:TS):TS:=fun D σ H=>wi σ H fun J H1=>∃ W:Nat→Nat→St→Hp→Prop,(∃ m,W 0 m σ H1)∧∀ i m σ H,W i m σ H →
 (J.stop i H∧D.nx σ H)∨(J.go i H∧∃ N:St→Hp→Prop,(∀ σ' H',N σ' H'→∃ m',m' < m∧W (i+1) m' σ' H')∧∀ x H',J.yld i H x H'→g x σ H' fun σ2 H2=>tb { D with nx:=N,ct:=N,bk:=D.nx } σ2 H2)
def pinsAt (fp:List Addr) (h:Heap):List (Addr×Obj):=fp.filterMap fun b=>(h.get? b).map fun o=>(b,o)
theorem mem_pinsAt {fp:List Addr} {h:Heap} {b:Addr} {o:Obj} (hb:b∈fp) (e:h.get? b=some o):(b,o)∈pinsAt fp h:=List.mem_filterMap.mpr ⟨b,hb,by rw [e]; rfl⟩
theorem of_pinsAt {fp:List Addr} {h:Heap} {p:Addr×Obj} (hp:p∈pinsAt fp h):p.1∈fp∧h.get? p.1=some p.2:=by
 obtain ⟨b,hb,e⟩:=List.mem_filterMap.mp hp
 cases q:h.get? b with
 | none=>rw [q] at e; cases e
 | some o =>
   rw [q] at e
   have e':(b,o)=p:=Option.some.inj e
   subst e'
   exact ⟨hb,q⟩
theorem Inv.pinned {pins:List (Addr×Obj)} {σ:St} {H:Hp} {s:Shared} {fp:List Addr} (I:Inv X pins σ H s) (hf:∀ b∈fp,FpOk X pins H b) (ho:∀ b∈fp,∃ o,s.heap.get? b=some o∧∀ v,o.data≠.cell v):Inv X (pins ++ pinsAt fp s.heap) σ H s :=
 I.pins_of fun p hp=>(List.mem_append.mp hp).elim (fun z=>I.pin p (List.mem_append_right _ z)) fun z=>by
  obtain ⟨hb,e⟩:=of_pinsAt z
  obtain ⟨f0,f1,f2,_⟩:=hf p.1 hb
  obtain ⟨o,e',d⟩:=ho p.1 hb
  rw [e] at e'; cases e'
  exact ⟨e,f0,f1,f2,d⟩
theorem Inv.unpinned {pins pl:List (Addr×Obj)} {σ:St} {H:Hp} {s:Shared} (I:Inv X (pins ++ pl) σ H s):Inv X pins σ H s:=I.pins_of fun p hp=>I.pin p (List.mem_append_right _ (List.mem_append_left _ hp))
theorem ps_for {iter:Expr} {body:List Stmt} {wi:TI} {g:TG} {tb:TS} {pos:Pos} (hp:PassesOwn (model X.prog X.w) X.A X.env X.xe) (hc:X.calm=true) (hi:PI X tg iter wi) (hg:PG X tg g) (hb:PSs X body tb)
  (hs:∀ x,foldedSetIterable iter X.env x=pure x:=by intro _; rfl):PS X (.For tg iter body [] pos) (tFor wi g tb):=by
 intro pins s σ H D I h
 refine wpAny_For (thn (hi pins s σ H _ I h) fun v s1 h1=>thn h1 fun itv s2 h2=>?_) hs
 obtain ⟨it,fp,tn,J,H2,e,I2,T,st2,f2,W,⟨m0,w0⟩,turn⟩:=h2
 subst e
 have stat:∀ {H':Hp},(∀ b∈fp,H' b=none)→∀ b∈fp,FpOk X pins H' b:=fun hn b hb=>⟨hn b hb,(f2 b hb).2⟩
 refine codeAny_forLoop_any (fun n s'=>∃ i σ' H',Inv X pins σ' H' s'∧tn i s'.heap∧(∀ b∈fp,H' b=none)∧W i n σ' H') ?_ m0 ⟨0,σ,H2,I2,st2,fun b hb=>(f2 b hb).1,w0⟩
 rintro n s3 ⟨i,σ3,H3,I3,st3,fr3,w3⟩
 rcases turn i n σ3 H3 w3 with ⟨stop,qn⟩ | ⟨go,N,hN,step⟩
 · refine wpAny_passesOwn hp (thn (T.done X rfl rfl rfl hc i pins s3 σ3 H3 X.xe I3 (stat fr3) st3 stop) fun r s4 ⟨hr,I4⟩=>?_)
   subst hr
   exact wpAny_execs_nil ⟨σ3,H3,I4,qn⟩
 · refine wpAny_passesOwn hp (thn (T.item X rfl rfl rfl hc i pins s3 σ3 H3 X.xe I3 (stat fr3) st3 go) fun r s4 ⟨u,hr,h4⟩=>?_)
   subst hr
   refine wpAny_passesOwn hp (thn h4 fun _ s5 ⟨x,H5,I5,r5,y5,st5,fr5⟩=>?_)
   have I5':=I5.pinned (stat fr5) (T.obj _ _ st5)
   refine wpAny_passesOwn hp (thn (hg _ s5 σ3 H5 x u _ I5' r5 (step x H5 y5)) fun _ s6 ⟨σ6,H6,I6,q6⟩=>?_)
   refine wpAny_passesOwn hp (thn (hb _ s6 σ6 H6 _ I6 q6) fun f s7 q7=>?_)
   have again:∀ {σ7:St} {H7:Hp},Inv X (pins ++ pinsAt fp s5.heap) σ7 H7 s7→N σ7 H7→∃ m,m < n∧∃ i σ' H',Inv X pins σ' H' s7∧tn i s7.heap∧(∀ b∈fp,H' b=none)∧W i m σ' H':=fun {σ7 H7} I7 n7=>by
    obtain ⟨m',hm,w7⟩:=hN σ7 H7 n7
    refine ⟨m',hm,i+1,σ7,H7,I7.unpinned,T.keep _ _ _ st5 fun b hb o e=>(I7.pin (b,o) (List.mem_append_right _ (List.mem_append_right _ (mem_pinsAt hb e)))).1,fun b hb=>?_,w7⟩
    obtain ⟨o,e,d⟩:=T.obj _ _ st5 b hb
    exact (I7.pin (b,o) (List.mem_append_right _ (List.mem_append_right _ (mem_pinsAt hb e)))).2.1
   cases f with
   | next=>obtain ⟨σ7,H7,I7,n7⟩:=q7; exact again I7 n7
   | cont=>obtain ⟨σ7,H7,I7,n7⟩:=q7; exact again I7 n7
   | brk=>obtain ⟨σ7,H7,I7,q7⟩:=q7; exact ⟨σ7,H7,I7.unpinned,q7⟩
   | ret v=>obtain ⟨x7,σ7,H7,I7,r7,q7⟩:=q7; exact ⟨x7,σ7,H7,I7.unpinned,r7,q7⟩
end
end L2
namespace L2
open PySem PySem.Spec PyProof.Rows
abbrev R2:=V→V→Hp→VK→Prop
def OpR (X:Cx) (f:Value→Value→Sem Value) (r:R2):Prop :=
 ∀ (pins:List (Addr×Obj)) (s:Shared) (σ:St) (H:Hp) (x y:V) (v u:Value) (Q:VK),Inv X pins σ H s→RelV x v→RelV y u→r x y H Q →
  wpAny (model X.prog X.w) X.A (f v u) (EP X pins σ Q) X.xe s
def UnR (X:Cx) (f:Value→Sem Value) (r:V→Hp→VK→Prop):Prop :=
 ∀ (pins:List (Addr×Obj)) (s:Shared) (σ:St) (H:Hp) (x:V) (v:Value) (Q:VK),Inv X pins σ H s→RelV x v→r x H Q →
  wpAny (model X.prog X.w) X.A (f v) (EP X pins σ Q) X.xe s
def CallR (X:Cx) (f:Value) (r:List V→Hp→VK→Prop):Prop :=
 ∀ (pins:List (Addr×Obj)) (s:Shared) (σ:St) (H:Hp) (xs:List V) (us:List Value) (Q:VK),Inv X pins σ H s→Vals xs us→r xs H Q →
  wpAny (model X.prog X.w) X.A (call f us) (EP X pins σ Q) X.xe s
def tOp (r:R2) (ta tb:TE):TE:=fun σ H Q=>ta σ H fun x H1=>tb σ H1 fun y H2=>r x y H2 Q
def tUn (r:V→Hp→VK→Prop) (ta:TE):TE:=fun σ H Q=>ta σ H fun x H1=>r x H1 Q
def rI (C:Int→Int→Prop) (g:Int→Int→V):R2:=fun x y H Q=>∃ i j,x = .int i∧y = .int j∧C i j∧Q (g i j) H
def rI0 (g:Int→Int→V):R2:=fun x y H Q=>∃ i j,x = .int i∧y = .int j∧Q (g i j) H
def rU (g:Int→V):V→Hp→VK→Prop:=fun x H Q=>∃ i,x = .int i∧Q (g i) H
section
variable {X:Cx} {a b c:Expr} {ta tb tc:TE} {pos:Pos}
theorem binT (ha:PE X a ta) (hb:PE X b tb) {pins:List (Addr×Obj)} {s:Shared} {σ:St} {H:Hp} {R:V→V→Hp→Prop} (I:Inv X pins σ H s)
  (h:ta σ H fun x H1=>tb σ H1 fun y H2=>R x y H2) {Q:Value→Shared→Prop} {f:Value→Value→Sem Value}
  (hf:∀ v u s2 x y H2,Inv X pins σ H2 s2→RelV x v→RelV y u→R x y H2→wpAny (model X.prog X.w) X.A (f v u) Q X.xe s2) :
  wpAny (model X.prog X.w) X.A (eval a X.env) (fun v s₁=>wpAny (model X.prog X.w) X.A (eval b X.env) (fun u s₂=>wpAny (model X.prog X.w) X.A (f v u) Q X.xe s₂) X.xe s₁) X.xe s:=by
 refine thn (ha pins s σ H _ I h) fun v s1 ⟨x,H1,I1,r1,q1⟩=>?_
 refine thn (hb pins s1 σ H1 _ I1 q1) fun u s2 ⟨y,H2,I2,r2,q2⟩=>?_
 exact hf v u s2 x y H2 I2 r1 r2 q2
theorem pe_op {op:Operator} {r:R2} (ho:OpR X (binaryOp op) r) (ha:PE X a ta) (hb:PE X b tb):PE X (.BinOp a op b pos) (tOp r ta tb):=by
 intro pins s σ H Q I h
 exact wpAny_BinOp (binT ha hb I h fun v u s2 x y H2 I2 rx ry q=>ho pins s2 σ H2 x y v u Q I2 rx ry q)
theorem pe_un {op:UnaryOp} {r:V→Hp→VK→Prop} (ho:UnR X (unaryOp op) r) (ha:PE X a ta):PE X (.UnaryOp op a pos) (tUn r ta):=by
 intro pins s σ H Q I h
 exact UnaryOp_ (thn (ha pins s σ H _ I h) fun v s1 ⟨x,H1,I1,r1,q1⟩=>ho pins s1 σ H1 x v Q I1 r1 q1)
theorem opI {f:Value→Value→Sem Value} {C:Int→Int→Prop} {g:Int→Int→Int}
  (rule:∀ (i j:Int) (t u:Tok) (s:Shared) (Q:Value→Shared→Prop) (E:Value→Shared→Prop),C i j→Q (.int (g i j) s.toks) { s with toks:=s.toks+1 }→wpAny (model X.prog X.w) X.A (f (.int i t) (.int j u)) Q E s) :
  OpR X f (rI C fun i j=>.int (g i j)):=by
 intro pins s σ H x y v u Q I rx ry h
 obtain ⟨i,j,rfl,rfl,hc,q⟩:=h
 obtain ⟨t,rfl⟩:=rx
 obtain ⟨t',rfl⟩:=ry
 exact rule i j t t' s _ _ hc ⟨.int (g i j),H,I.tok _,⟨_,rfl⟩,q⟩
theorem opI0 {f:Value→Value→Sem Value} {g:Int→Int→Int}
  (rule:∀ (i j:Int) (t u:Tok) (s:Shared) (Q:Value→Shared→Prop) (E:Value→Shared→Prop),Q (.int (g i j) s.toks) { s with toks:=s.toks+1 }→wpAny (model X.prog X.w) X.A (f (.int i t) (.int j u)) Q E s) :
  OpR X f (rI0 fun i j=>.int (g i j)):=by
 intro pins s σ H x y v u Q I rx ry h
 obtain ⟨i,j,rfl,rfl,q⟩:=h
 obtain ⟨t,rfl⟩:=rx
 obtain ⟨t',rfl⟩:=ry
 exact rule i j t t' s _ _ ⟨.int (g i j),H,I.tok _,⟨_,rfl⟩,q⟩
theorem opB0 {f:Value→Value→Sem Value} {g:Int→Int→Bool}
  (rule:∀ (i j:Int) (t u:Tok) (s:Shared) (Q:Value→Shared→Prop) (E:Value→Shared→Prop),Q (.bool (g i j)) s→wpAny (model X.prog X.w) X.A (f (.int i t) (.int j u)) Q E s) :
  OpR X f (rI0 fun i j=>.bl (g i j)):=by
 intro pins s σ H x y v u Q I rx ry h
 obtain ⟨i,j,rfl,rfl,q⟩:=h
 obtain ⟨t,rfl⟩:=rx
 obtain ⟨t',rfl⟩:=ry
 exact rule i j t t' s _ _ ⟨.bl (g i j),H,I,rfl,q⟩
theorem op_add:OpR X (binaryOp .Add) (rI0 fun i j=>.int (i+j)):=opI0 fun _ _ _ _ _ _ _ q=>add_int q
theorem op_sub:OpR X (binaryOp .Sub) (rI0 fun i j=>.int (i - j)):=opI0 fun _ _ _ _ _ _ _ q=>sub_int q
theorem op_mod:OpR X (binaryOp .Mod) (rI (fun _ j=>0 < j) fun i j=>.int (i % j)):=opI fun i j _ _ _ _ _ hc q=>by
 have h1:(0:Int) < j:=hc
 exact mod_int' (by omega) (by rw [Int.fmod_eq_emod_of_nonneg i (by omega)]; exact q)
theorem unI {f:Value→Sem Value} {g:Int→Int}
  (rule:∀ (i:Int) (t:Tok) (s:Shared) (Q:Value→Shared→Prop) (E:Value→Shared→Prop),Q (.int (g i) s.toks) { s with toks:=s.toks+1 }→wpAny (model X.prog X.w) X.A (f (.int i t)) Q E s) :
  UnR X f (rU fun i=>.int (g i)):=by
 intro pins s σ H x v Q I rx h
 obtain ⟨i,rfl,q⟩:=h
 obtain ⟨t,rfl⟩:=rx
 exact rule i t s _ _ ⟨.int (g i),H,I.tok _,⟨_,rfl⟩,q⟩
theorem un_neg:UnR X (unaryOp .USub) (rU fun i=>.int (-i)):=unI fun _ _ _ _ _ q=>neg_int q
end
section
variable {X:Cx} {a b c:Expr} {ta tb tc:TE} {pos:Pos}
theorem fin_bl {pins:List (Addr×Obj)} {σ:St} {H:Hp} {s:Shared} {Q:VK} {k k':Bool} (I:Inv X pins σ H s) (q:Q (.bl k) H) (e:k=k'):EP X pins σ Q (.bool k') s:=by
 subst e
 exact ⟨.bl k,H,I,rfl,q⟩
theorem op_lt:OpR X (compareOp .Lt) (rI0 fun i j=>.bl (decide (i < j))):=opB0 fun _ _ _ _ _ _ _ q=>lt_int q
theorem op_le:OpR X (compareOp .LtE) (rI0 fun i j=>.bl (decide (i≤j))):=opB0 fun _ _ _ _ _ _ _ q=>le_int q
theorem op_ge:OpR X (compareOp .GtE) (rI0 fun i j=>.bl (decide (j≤i))):=opB0 fun _ _ _ _ _ _ _ q=>ge_int q
theorem op_in_str:OpR X (compareOp .In) (fun x y H Q=>∃ i j,x = .str i∧y = .str j∧Q (.bl (!(Builtin.Str.occurrences j i 0 j.length 1).isEmpty)) H):=by
 intro pins s σ H x y v u Q I rx ry h
 obtain ⟨i,j,rfl,rfl,q⟩:=h
 obtain ⟨t,rfl⟩:=rx
 obtain ⟨t',rfl⟩:=ry
 exact in_str (fin_bl I q rfl)
theorem op_isN:OpR X (compareOp .Is) (fun x y H Q=>y = .non∧Q (.bl (decide (x = .non))) H):=by
 intro pins s σ H x y v u Q I rx ry h
 obtain ⟨rfl,q⟩:=h
 cases ry
 refine is_none_gen (fin_bl I q ?_)
 cases x <;> first
  | (cases rx; rfl)
  | (obtain ⟨t,rfl⟩:=rx; rfl)
theorem OpR.or {f:Value→Value→Sem Value} {r r':R2} (h:OpR X f r) (h':OpR X f r'):OpR X f (fun x y H Q=>r x y H Q∨r' x y H Q):=by
 intro pins s σ H x y v u Q I rx ry q
 rcases q with q | q
 · exact h pins s σ H x y v u Q I rx ry q
 · exact h' pins s σ H x y v u Q I rx ry q
theorem nomark (b:Expr) {op:CmpOp} (h:op≠.In:=by decide) (h2:op≠.NotIn:=by decide):behindInMarks op b=false:=by
 have e1:(op == CmpOp.In)=false:=by cases op <;> first | rfl | exact absurd rfl h
 have e2:(op == CmpOp.NotIn)=false:=by cases op <;> first | rfl | exact absurd rfl h2
 cases b <;> simp [behindInMarks,e1,e2]
theorem pe_cmpR {op:CmpOp} {r:R2} (ho:OpR X (compareOp op) r) (ha:PE X a ta) (hb:PE X b tb) (hm:behindInMarks op b=false):PE X (.Compare a [op] [b] pos) (tOp r ta tb):=by
 intro pins s σ H Q I h
 exact wpAny_Compare1 (binT ha hb I h fun v u s2 x y H2 I2 rx ry q=>ho pins s2 σ H2 x y v u Q I2 rx ry q) hm
def tTest (t:TE):TT:=fun σ H Q=>t σ H fun x H'=>∃ k,x = .bl k∧Q k H'
theorem pt_cmpR {op:CmpOp} {r:R2} (ho:OpR X (compareOp op) r) (ha:PE X a ta) (hb:PE X b tb) (hm:behindInMarks op b=false):PT X (.Compare a [op] [b] pos) (tTest (tOp r ta tb)):=by
 intro pins s σ H Q I h
 refine wpAny_isTrue_Compare1 (thn (ha pins s σ H _ I h) fun v s1 ⟨x,H1,I1,r1,q1⟩=>thn (hb pins s1 σ H1 _ I1 q1) fun u s2 ⟨y,H2,I2,r2,q2⟩ =>
  thn (ho pins s2 σ H2 x y v u _ I2 r1 r2 q2) fun c s3 ⟨z,H3,I3,r3,k,e,q3⟩=>?_) hm
 subst e
 cases r3
 exact wpAny_truthy_bool ⟨H3,I3,q3⟩
theorem line63:(sizeLine:Nat) < 2 ^ 63:=by rw [sizeLine_eq]; decide
theorem op_add_str:OpR X (binaryOp .Add) (fun x y H Q=>∃ i j,x = .str i∧y = .str j∧i.length+j.length≤sizeLine∧Q (.str (i ++ j)) H):=by
 intro pins s σ H x y v u Q I rx ry h
 obtain ⟨i,j,rfl,rfl,hz,q⟩:=h
 obtain ⟨t,rfl⟩:=rx
 obtain ⟨t',rfl⟩:=ry
 exact add_str (fun t' tk=>⟨.str (i ++ j),H,I.tok _,⟨_,rfl⟩,q⟩) hz
theorem vals1 {x:V} {us:List Value} (r:Vals [x] us):∃ u,us=[u]∧RelV x u:=by
 cases r with
 | cons r1 r2=>cases r2; exact ⟨_,rfl,r1⟩
theorem vals2 {x y:V} {us:List Value} (r:Vals [x,y] us):∃ u w',us=[u,w']∧RelV x u∧RelV y w':=by
 cases r with
 | cons r1 r2 =>
   cases r2 with
   | cons r3 r4=>cases r4; exact ⟨_,_,rfl,r1,r3⟩
end
end L2
namespace L2
open PySem PySem.Spec PyProof.Rows
section
variable {prog:Program} {w:World} {A:Around} {E:Value→Shared→Prop} {s:Shared} {K:PySem.W.Frag} {x dx C f:Addr} {mA:Str→Option Value} {name:Str} {v:Value}
end
section
variable {P:Program} {w:World} {H H':Hp} {h h':Heap} {a C dx:Addr} {fs fs':List (Str×V)}
end
section
variable {X:Cx} {pins:List (Addr×Obj)} {σ:St} {H:Hp} {s:Shared} {a C dx:Addr} {fs:List (Str×V)} {f:Str} {v:V} {A:Around} {E:Value→Shared→Prop}
end
section
variable {X:Cx} {o e value:Expr} {f:Str} {pos pos' tpos:Pos} {ta tv:TE}
end
section
variable {X:Cx} {pins:List (Addr×Obj)} {σ:St} {H:Hp} {s:Shared} {A:Around} {E:Value→Shared→Prop} {Q:Value→Shared→Prop} {c:Value} {b:Bool}
end
end L2
namespace L2
open PySem PySem.Spec PyProof.Rows
structure Room (k:Nat) (A:Around):Prop where
 hd:A.handled=none
 dp:A.depth+3 * k+5 < recursionLimit
 un:A.units+16 * k+200 < cLine
theorem Room.mono {j k:Nat} {A:Around} (r:Room k A) (h:j≤k):Room j A:=⟨r.hd,by have:=r.dp; omega,by have:=r.un; omega⟩
theorem Room.deeper {k:Nat} {A:Around} (r:Room (k+1) A) (env:Env):Room k (A.deeper env) :=
 ⟨r.hd,by have:=r.dp; show A.depth+1+3 * k+5 < _; omega,by have:=r.un; show A.units+3+16 * k+200 < _; omega⟩
theorem Room.depth {k:Nat} {A:Around} (r:Room k A):A.depth < recursionLimit:=by have:=r.dp; omega
def tNil:TA:=fun _ H Q=>Q [] H
def tCons (ta:TE) (tr:TA):TA:=fun σ H Q=>ta σ H fun x H1=>tr σ H1 fun xs H2=>Q (x :: xs) H2
section
variable {X:Cx} {e:Expr} {es:List Expr} {te:TE} {t:TA} {pos:Pos}
theorem pa_nil:PA X [] tNil:=fun _ _ _ _ H Q I h=>Calls.spliced_nil ⟨[],H,I,.nil,h⟩
theorem pa_cons (ha:PE X e te) (hr:PA X es t) (hs:starEach (e :: es) X.env=(false,eval e X.env) :: starEach es X.env:=by rfl):PA X (e :: es) (tCons te t):=by
 intro pos pins s σ H Q I h
 rw [hs]
 show wpAny _ _ (spliced ((false,eval e X.env) :: backTo pos (starEach es X.env))) _ _ s
 refine Calls.spliced_cons (thn (ha pins s σ H _ I h) fun u s1 ⟨x,H1,I1,r1,q1⟩=>?_)
 exact thn (hr pos pins s1 σ H1 _ I1 q1) fun us s2 ⟨xs,H2,I2,r2,q2⟩=>⟨x :: xs,H2,I2,.cons r1 r2,q2⟩
def tTup (t:TA):TE:=fun σ H Q=>t σ H fun xs H1=>xs.length≤sizeLine∧∀ p,H1 p=none→Q (.ref p) (upd H1 p (.tup xs))
def tLst (t:TA):TE:=fun σ H Q=>t σ H fun xs H1=>xs.length≤sizeLine∧∀ p,H1 p=none→Q (.ref p) (upd H1 p (.lst xs))
theorem pe_tup {x1} (h:PA X es t):PE X (.Tuple es x1 pos) (tTup t):=by
 intro pins s σ H Q I hq
 refine wpAny_Tuple_spliced (thn (h pos pins s σ H _ I hq) fun us s1 ⟨xs,H1,I1,r,z,q⟩=>⟨by rw [← r.length]; exact z,?_⟩)
 have hf:H1 s1.heap.objs.size=none:=I1.hok.fresh (Nat.le_refl _)
 refine ⟨.ref s1.heap.objs.size,upd H1 s1.heap.objs.size (.tup xs),I1.laid (t':=s1.toks) (fun b u e=>Heap.get?_push_of_some _ e) (Nat.le_refl _) ?_,rfl,q _ hf⟩
 exact ⟨z,us,r,⟨_,Heap.get?_push_size _ rfl,rfl,_,rfl⟩⟩
theorem pe_lst (h:PA X es t):PE X (.List es pos) (tLst t):=by
 intro pins s σ H Q I hq
 refine wpAny_List_spliced (thn (h pos pins s σ H _ I hq) fun us s1 ⟨xs,H1,I1,r,z,q⟩=>⟨by rw [← r.length]; exact z,?_⟩)
 have hf:H1 s1.heap.objs.size=none:=I1.hok.fresh (Nat.le_refl _)
 refine ⟨.ref s1.heap.objs.size,upd H1 s1.heap.objs.size (.lst xs),I1.laid (t':=s1.toks) (fun b u e=>Heap.get?_push_of_some _ e) (Nat.le_refl _) ?_,rfl,q _ hf⟩
 exact ⟨z,us,0,r,Heap.get?_push_size _ rfl⟩
end
abbrev Sp:=List V→Hp→VK→XK→Prop
abbrev CXT:=List Env→Hp→Shared→XK→Value→Shared→Prop
structure Env0 (P:Program) (w:World) (K:PySem.W.Frag) (mg:Str→Option Value) (base:Heap) (A:Around) (outer:List Env) (s:Shared) (H:Hp):Prop where
 frames:A.frames=some outer
 mod:Mod K mg base
 bs:∀ b o,base.get? b=some o→s.heap.get? b=some o∧H b=none
 bsz:base.objs.size≤s.heap.objs.size
 funs:s.heap.FunFrames base outer
 frf:∀ b∈frs outer,H b=none
 hok:HOk P w H s.heap
 bare:AllBare s.gens
def CE (outer:List Env) (P:Program) (w:World) (H:Hp) (s:Shared) (Q:VK) (u:Value) (s':Shared):Prop :=
 ∃ v H',s'.os=s.os∧AllBare s'.gens∧Un (frs outer) [] H H' s.heap s'.heap∧HOk P w H' s'.heap∧RelV v u∧Q v H'
def CR (CX:CXT) (outer:List Env) (P:Program) (w:World) (H:Hp) (s:Shared) (Q:VK) (E:XK) (r:Result) (s':Shared):Prop :=
 match r with
 | .ok (.ret u)=>CE outer P w H s Q u s'
 | .ok _=>False
 | .error e=>CX outer H s E e s'
structure FnOk (P:Program) (w:World) (K:PySem.W.Frag) (mg:Str→Option Value) (base:Heap) (CX:CXT) (k:Nat) (f:Addr) (fd:FuncData) (ps:List Str) (sp:Sp):Prop where
 len:∀ vs H Q E,sp vs H Q E→vs.length=ps.length
 run:∀ (A:Around) (outer:List Env) (s:Shared) (H:Hp) (args:Args) (us:List Value) (vs:List V) (Q:VK) (E:XK),Room k A→Env0 P w K mg base A outer s H→BindsTo s fd args (ps.zip us)→Vals vs us→sp vs H Q E →
  codeAny (model P w) A (.call (.ref f) args) (CR CX outer P w H s Q E) s
section
variable {X:Cx} {pins:List (Addr×Obj)} {σ:St} {H:Hp} {s s':Shared}
theorem Inv.env0 (I:Inv X pins σ H s):Env0 X.prog X.w X.K X.mg X.base X.A X.stack s H :=
 ⟨I.ok.frames,I.ok.mod,I.bs,Nat.le_trans I.ok.bsz I.sz,I.stack,I.stkFree,I.hok,I.bare⟩
theorem Inv.after {Q:VK} {u:Value} (I:Inv X pins σ H s) (h:CE X.stack X.prog X.w H s Q u s'):EP X pins σ Q u s':=by
 obtain ⟨v,H',os,bare,un,hok,r,q⟩:=h
 obtain ⟨hh,g,d,t,os'⟩:=s'
 obtain rfl:os'=s.os:=os
 exact ⟨v,H',I.call (h':=hh) (g':=g) (d':=d) (t':=t) (ch:=[]) un hok bare (fun b z=>absurd z (by simp)),r,q⟩
end
def tCall (sp:Sp) (dvs:List V) (E:XK) (t:TA):TE:=fun σ H Q=>t σ H fun vs H1=>sp (vs ++ dvs) H1 Q E
def Binds (K:PySem.W.Frag) (fd:FuncData) (ps:List Str) (ds:List Value):Prop :=
 ∀ (s:Shared) (us:List Value),K.In s.heap→(us ++ ds).length=ps.length→BindsTo s fd ⟨us,[]⟩ (ps.zip (us ++ ds))
theorem Binds.all {K:PySem.W.Frag} {fd:FuncData} {ps:List Str} (h:∀ us:List Value,us.length=ps.length→bindArgs fd ⟨us,[]⟩=pure (ps.zip us)):Binds K fd ps []:=fun s us _ hl=>by
 rw [List.append_nil] at hl ⊢
 exact .of_eq (h us hl)
def Passes (CX:CXT) (X:Cx) (E:XK):Prop:=∀ (pins:List (Addr×Obj)) (σ:St) (H:Hp) (s:Shared) (e:Value) (s':Shared),Inv X pins σ H s→CX X.stack H s E e s'→X.xe e s'
section
variable {X:Cx} {CX:CXT} {k:Nat} {f C:Addr} {fd:FuncData} {ps:List Str} {sp:Sp} {dvs:List V} {ds:List Value} {E:XK} {x m:Str} {p pos apos:Pos} {e o:Expr} {es:List Expr} {ta:TE} {t:TA}
theorem run_fn {pins:List (Addr×Obj)} {σ:St} {H:Hp} {s:Shared} {Q:VK} {us:List Value} {vs:List V} (F:FnOk X.prog X.w X.K X.mg X.base CX k f fd ps sp) (hr:Room k X.A) (hb:Binds X.K fd ps ds) (hd:Vals dvs ds) (hx:Passes CX X E)
  (I:Inv X pins σ H s) (r:Vals vs us) (h:sp (vs ++ dvs) H Q E):wpAny (model X.prog X.w) X.A (call (.ref f) us) (EP X pins σ Q) X.xe s:=by
 have r2:Vals (vs ++ dvs) (us ++ ds):=r.append hd
 have hl:(us ++ ds).length=ps.length:=by rw [← r2.length]; exact F.len _ _ _ _ h
 refine wpAny_call (codeAny_mono (F.run X.A X.stack s H ⟨us,[]⟩ (us ++ ds) (vs ++ dvs) Q E hr I.env0 (hb s us I.kIn hl) r2 h) fun r s' hq=>?_)
 cases r with
 | error e=>exact hx pins σ H s e s' I hq
 | ok fl =>
   cases fl with
   | ret u=>exact I.after hq
   | next=>exact False.elim hq
   | brk=>exact False.elim hq
   | cont=>exact False.elim hq
theorem pe_call (F:FnOk X.prog X.w X.K X.mg X.base CX k f fd ps sp) (hr:Room k X.A) (hg:Gl X x) (hm:X.mg x=some (.ref f)) (hk:PySem.W.keepIn X.K (.ref f)=true) (hb:Binds X.K fd ps ds) (hd:Vals dvs ds) (hx:Passes CX X E)
  (ha:PA X (e :: es) t) (hdb:(x == ("__debug__" : Str))=false:=by decide) (he:starEach (e :: es) X.env=(false,eval e X.env) :: starEach es X.env:=by rfl) (hpl:(backTo pos (starEach es X.env)).any (·.1)=false:=by rfl) :
  PE X (.Call (.Name x p) (e :: es) [] pos) (tCall sp dvs E t):=by
 intro pins s σ H Q I h
 refine wpAny_Call_Name_kw (ld_glob I hg hm ?_ hdb)
 refine PySem.W.callWith_K (h₀:=X.base) I.ok.mod.kin hk (thn (ha pos pins s σ H _ I h) fun us s1 ⟨vs,H1,I1,r,q⟩=>⟨I1.kIn,?_⟩) he hpl
 exact run_fn F hr hb hd hx I1 r q
end
section
variable {X:Cx} {CX:CXT} {k:Nat} {f C:Addr} {fd:FuncData} {ps ks:List Str} {sp:Sp} {E:XK} {x m:Str} {p pos apos kpos:Pos} {e o:Expr} {es:List Expr} {kws:List Keyword} {te ta:TE} {t tk:TA} {nm:Option Str}
variable {g:List Value→List Value→List Value} {gV:List V→List V→List V}
end
structure FnScope (N P:List Str) (sc:Scope):Prop where
 kind:sc.kind = .function
 co:sc.isCoroutine=false
 gen:sc.isGenerator=false
 nd:N.Nodup
 pre:N.take P.length=P
 par:∀ x∈P,sc.names.lookup x=some .local∨sc.names.lookup x=some .cell
 nofree:∀ y∈sc.names,y.2≠.free
theorem bindL_out {kindOf:Str→Option NameKind} {x:Str}:∀ {binds:List (Str×Value)} {m:Str→Option Value},(∀ v,(x,v)∉binds)→bindL kindOf binds m x=m x
 | [],_,_=>rfl
 | (n,v) :: r,m,h=>by
   unfold bindL
   rw [bindL_out fun w hw=>h w (List.mem_cons_of_mem _ hw)]
   split
   · have:x≠n:=by rintro rfl; exact h v List.mem_cons_self
     simp [this]
   · rfl
theorem bindC_out {kindOf:Str→Option NameKind} {x:Str}:∀ {binds:List (Str×Value)} {m:Str→Option Value},(∀ v,(x,v)∉binds)→bindC kindOf binds m x=m x
 | [],_,_=>rfl
 | (n,v) :: r,m,h=>by
   unfold bindC
   rw [bindC_out fun w hw=>h w (List.mem_cons_of_mem _ hw)]
   split
   · rfl
   · have:x≠n:=by rintro rfl; exact h v List.mem_cons_self
     simp [this]
theorem bindL_get {kindOf:Str→Option NameKind} {x:Str} {v:Value}:∀ {P:List Str} {vs:List Value} {i:Nat} {m:Str→Option Value},P.Nodup→P[i]?=some x→vs[i]?=some v→kindOf x=some .local →
  bindL kindOf (P.zip vs) m x=some v
 | [],_,_,_,_,h,_,_=>by simp at h
 | _ :: _,[],_,_,_,_,h,_=>by simp at h
 | p :: P,w :: vs,0,m,nd,h1,h2,hk=>by
   simp at h1 h2; subst h1; subst h2
   show bindL kindOf ((p,w) :: P.zip vs) m p=_
   unfold bindL
   rw [bindL_out fun v hv=>(List.nodup_cons.mp nd).1 (List.of_mem_zip hv).1,if_pos hk]
   simp
 | p :: P,w :: vs,i+1,m,nd,h1,h2,hk=>by
   show bindL kindOf ((p,w) :: P.zip vs) m x=_
   unfold bindL
   exact bindL_get (i:=i) (List.nodup_cons.mp nd).2 (by simpa using h1) (by simpa using h2) hk
theorem bindC_get {kindOf:Str→Option NameKind} {x:Str} {v:Value}:∀ {P:List Str} {vs:List Value} {i:Nat} {m:Str→Option Value},P.Nodup→P[i]?=some x→vs[i]?=some v→kindOf x≠some .local →
  bindC kindOf (P.zip vs) m x=some v
 | [],_,_,_,_,h,_,_=>by simp at h
 | _ :: _,[],_,_,_,_,h,_=>by simp at h
 | p :: P,w :: vs,0,m,nd,h1,h2,hk=>by
   simp at h1 h2; subst h1; subst h2
   show bindC kindOf ((p,w) :: P.zip vs) m p=_
   unfold bindC
   rw [bindC_out fun v hv=>(List.nodup_cons.mp nd).1 (List.of_mem_zip hv).1,if_neg hk]
   simp
 | p :: P,w :: vs,i+1,m,nd,h1,h2,hk=>by
   show bindC kindOf ((p,w) :: P.zip vs) m x=_
   unfold bindC
   exact bindC_get (i:=i) (List.nodup_cons.mp nd).2 (by simpa using h1) (by simpa using h2) hk
def start (N:List Str) (vs:List V):St:=vs.map some ++ List.replicate (N.length - vs.length) none
def cxOf (CX:CXT) (P:Program) (w:World) (K:PySem.W.Frag) (mg:Str→Option Value) (base:Heap) (N:List Str) (qual:Str) (scope:Scope) (f:Addr) (cd:Value) (A:Around) (outer:List Env) (s:Shared) (H:Hp) (E:XK):Cx where
 prog:=P
 w:=w
 K:=K
 mg:=mg
 base:=base
 A:=A.deeper (envOfC qual scope s.heap.objs.size f cd)
 N:=N
 s₀:=s
 H₀:=H
 env:=envOfC qual scope s.heap.objs.size f cd
 outer:=outer
 stack:=envOfC qual scope s.heap.objs.size f cd :: outer
 ex:=[]
 calm:=true
 fn:=fun _=>true
 pn:=[]
 xe:=fun e s'=>wpAny (model P w) (A.deeper (envOfC qual scope s.heap.objs.size f cd)) (leaving (envOfC qual scope s.heap.objs.size f cd) e) (fun _ s''=>CX outer H s E e s'') (fun e' s''=>CX outer H s E e' s'') s'
theorem cell_has {sc:Scope} {n:Nat} {x:Str} (h:sc.names.lookup x=some .cell):∃ c,(cellsFrom n sc.names []).lookup x=some c:=by
 have q:=PySem.W.cellsFrom_some sc.names n [] (.inl h)
 exact Option.isSome_iff_exists.mp q
theorem inv_start {CX:CXT} {P:Program} {w:World} {K:PySem.W.Frag} {mg:Str→Option Value} {base:Heap} {N ps:List Str} {qual:Str} {scope:Scope} {f:Addr} {cd:Value} {A:Around} {outer:List Env} {s s1:Shared} {H:Hp} {E:XK} {us:List Value} {vs:List V}
  (S:FnScope N ps scope) (hd:A.handled=none) (e0:Env0 P w K mg base A outer s H) (hl:vs.length=ps.length) (r:Vals vs us)
  (x:InCallC s s.heap.objs.size (bindL (envOfC qual scope s.heap.objs.size f cd).kindOf (ps.zip us) fun _=>none) (cellsFrom (s.heap.objs.size+1) scope.names []) (bindC (envOfC qual scope s.heap.objs.size f cd).kindOf (ps.zip us) fun _=>none) s1) :
  Inv (cxOf CX P w K mg base N qual scope f cd A outer s H E) [] (start N vs) H s1:=by
 have hpl:ps.length≤N.length:=by have:=congrArg List.length S.pre; rw [List.length_take] at this; omega
 obtain ⟨h1,tk,rfl,hk⟩:=x.done
 have noA:∀ b:Addr,b∉(cxOf CX P w K mg base N qual scope f cd A outer s H E).ex:=fun b z=>absurd (show b∈([]:List Addr) from z) (by simp)
 refine ⟨⟨e0.mod,S.kind,rfl,rfl,Nat.le_refl _,fun y z c h1 h2=>?_,fun y hy=>?_,fun y c _ h=>?_,fun _=>hd,Around.frames_deeper e0.frames,.inr ⟨rfl,rfl⟩,fun b z=>absurd z (noA b),e0.bs,e0.bsz,fun b _ _=>noA b,fun b z=>absurd z (noA b),e0.funs,e0.frf⟩,
  rfl,e0.bare,Un.kept hk,⟨_,x.toInCall.ns,fun i y v h1 h2 h3=>?_⟩,fun y c h=>⟨_,x.cell y c h⟩,e0.hok.fresh (Nat.le_refl _),fun y c h=>?_,fun p hp=>absurd (show p∈([]:List (Addr×Obj)) from hp) (by simp),e0.hok.kept hk,?_⟩
 · exact name_of_addr x.apart (PySem.mem_of_lookup h1) (PySem.mem_of_lookup h2)
 · have hy:scope.names.lookup y=some .cell∨scope.names.lookup y=some .free:=hy
   rcases hy with hy | hy
   · exact cell_has hy
   · exact absurd rfl (S.nofree _ (PySem.mem_of_lookup hy))
 · exact Nat.le_of_lt (x.above y c (PySem.mem_of_lookup h))
 · have hi:i < vs.length:=by
    unfold start at h2
    by_cases hi:i < vs.length
    · exact hi
    · rw [List.getElem?_append_right (by simpa using hi)] at h2
      rw [List.getElem?_replicate] at h2
      split at h2 <;> cases h2
   have ha:vs[i]?=some v:=by
    unfold start at h2
    rw [List.getElem?_append_left (by simpa using hi),List.getElem?_map] at h2
    cases e:vs[i]? with
    | none=>rw [e] at h2; cases h2
    | some a=>rw [e] at h2; cases h2; rfl
   obtain ⟨u,hu,rv⟩:=r.get ha
   have hp:ps[i]?=some y:=by
    rw [← S.pre,List.getElem?_take_of_lt (by omega)]; exact h1
   have ndP:ps.Nodup:=by rw [← S.pre]; exact S.nd.sublist (List.take_sublist _ _)
   refine ⟨u,rv,?_⟩
   rcases S.par y (List.mem_of_getElem? hp) with k | k
   · exact .inl ⟨k,bindL_get ndP hp hu k⟩
   · obtain ⟨c,e⟩:=cell_has (n:=s.heap.objs.size+1) k
     refine .inr ⟨.inl k,c,e,?_⟩
     have q:=x.cell y c e
     rw [bindC_get ndP hp hu (by show scope.names.lookup y≠_; rw [k]; decide)] at q
     exact q
 · exact e0.hok.fresh (Nat.le_of_lt (x.above y c (PySem.mem_of_lookup h)))
 · unfold start
   show _=N.length
   rw [List.length_append,List.length_map,List.length_replicate]
   omega
theorem fn_of {CX:CXT} {P:Program} {w:World} {K:PySem.W.Frag} {mg:Str→Option Value} {base:Heap} {k:Nat} {f:Addr} {name qual:Str} {params:Arguments} {body:List Stmt} {scope:Scope} {dV kV doc pm cdv ct oc:Value} {an od:Option Addr}
  {osl:Array (Option Value)} {N ps:List Str} {sp:Sp} (lk:K.lookup f=some ⟨oc,od,.func (PySem.W.fnOf name qual params body scope dV kV doc pm an cdv ct),osl⟩) (hcd:PySem.W.codeIn K cdv qual=true) (S:FnScope N ps scope)
  (len:∀ vs H Q E,sp vs H Q E→vs.length=ps.length)
  (hbody:∀ (A:Around) (outer:List Env) (s:Shared) (H:Hp) (vs:List V) (Q:VK) (E:XK),Room k (A.deeper (envOfC qual scope s.heap.objs.size f cdv))→sp vs H Q E →
    ∃ t,PSs (cxOf CX P w K mg base N qual scope f cdv A outer s H E) body t∧t { nx:=fun _ H'=>Q .non H',rt:=Q } (start N vs) H) :
  FnOk P w K mg base CX (k+1) f (PySem.W.fnOf name qual params body scope dV kV doc pm an cdv ct) ps sp:=by
 refine ⟨len,fun A outer s H args us vs Q E hr e0 hb r hsp=>?_⟩
 have hl:=len _ _ _ _ hsp
 have KX:K.In s.heap:=e0.mod.kin.keeps fun b o e=>(e0.bs b o e).1
 have lim:s.heap.NoLimit:=e0.mod.nolimit.keeps fun b o e=>(e0.bs b o e).1
 have hkind:∀ y∈ps.zip us,scope.names.lookup y.1=some .local∨(scope.names.lookup y.1=some .cell∧((cellsFrom (s.heap.objs.size+1) scope.names []).lookup y.1).isSome=true):=fun ⟨n,v⟩ hy=>by
  rcases S.par n (List.of_mem_zip hy).1 with q | q
  · exact .inl q
  · exact .inr ⟨q,PySem.W.cellsFrom_some _ _ _ (.inl q)⟩
 refine codeAny_call_function hr.depth (KX _ _ lk) rfl S.co S.gen rfl (PySem.W.codeRec_of KX hcd) (hb _ _ _ _ ?_)
 refine wpAny_newFunctionEnv_cells S.kind hkind fun env he s1 x=>?_
 subst he
 refine ⟨lim.keeps x.toInCall.keep,codeAny_func ?_⟩
 obtain ⟨t,ht,hq⟩:=hbody A outer s H vs Q E (hr.deeper _) hsp
 have I:Inv (cxOf CX P w K mg base N qual scope f cdv A outer s H E) [] (start N vs) H s1:=inv_start S hr.hd e0 hl r x
 refine wpAny_mono (ht [] s1 (start N vs) H _ I hq) (fun fl s' hs=>?_) fun e s' hs=>hs
 have fin:∀ {σ':St} {H':Hp} {v:V} {u:Value},Inv (cxOf CX P w K mg base N qual scope f cdv A outer s H E) [] σ' H' s'→RelV v u→Q v H'→CE outer P w H s Q u s' :=
  fun {σ' H' v u} J rv q=>⟨v,H',J.os,J.bare,J.base,J.hok,rv,q⟩
 cases fl with
 | ret u =>
   obtain ⟨v,σ',H',J,rv,q⟩:=hs
   exact fin J rv q
 | next =>
   obtain ⟨σ',H',J,q⟩:=hs
   exact fin (v:=V.non) (u:=Value.none) J rfl q
 | brk =>
   obtain ⟨_,_,_,q⟩:=hs
   exact False.elim q
 | cont =>
   obtain ⟨_,_,_,q⟩:=hs
   exact False.elim q
end L2
namespace L2
open PySem PySem.Spec PyProof.Rows
section
variable {X:Cx} {x:Str} {p pos:Pos} {e:Expr} {es:List Expr} {t:TA} {id T:String} {r:List V→Hp→VK→Prop}
def tCB (r:List V→Hp→VK→Prop) (t:TA):TE:=fun σ H Q=>t σ H fun vs H1=>r vs H1 Q
theorem pe_callB (hc:CallR X (.builtin id) r) (hg:Gl X x) (hm:X.mg x=none) (hv:bootBuiltins x=some (.builtin id)) (ha:PA X (e :: es) t) (hn:x≠"__name__":=by decide) (hdb:(x == ("__debug__" : Str))=false:=by decide)
  (he:starEach (e :: es) X.env=(false,eval e X.env) :: starEach es X.env:=by rfl) (hpl:(backTo pos (starEach es X.env)).any (·.1)=false:=by rfl):PE X (.Call (.Name x p) (e :: es) [] pos) (tCB r t):=by
 intro pins s σ H Q I h
 refine wpAny_Call_Name_kw (ld_blt I hg hm hv ?_ hn hdb)
 exact PyProof.Rows.callWith_builtin1 (thn (ha pos pins s σ H _ I h) fun us s1 ⟨vs,H1,I1,r1,q1⟩=>hc pins s1 σ H1 vs us Q I1 r1 q1) he hpl
theorem pe_callTy (hc:CallR X (.type T) r) (hg:Gl X x) (hm:X.mg x=none) (hv:bootBuiltins x=some (.type T)) (ha:PA X (e :: es) t) (hn:x≠"__name__":=by decide) (hdb:(x == ("__debug__" : Str))=false:=by decide)
  (he:starEach (e :: es) X.env=(false,eval e X.env) :: starEach es X.env:=by rfl) (hpl:(backTo pos (starEach es X.env)).any (·.1)=false:=by rfl):PE X (.Call (.Name x p) (e :: es) [] pos) (tCB r t):=by
 intro pins s σ H Q I h
 refine wpAny_Call_Name_kw (ld_blt I hg hm hv ?_ hn hdb)
 exact PyProof.Rows.callWith_type1 (thn (ha pos pins s σ H _ I h) fun us s1 ⟨vs,H1,I1,r1,q1⟩=>hc pins s1 σ H1 vs us Q I1 r1 q1) he hpl
end
end L2
namespace HT
open PySem PyProof.Rows
section
open PySem.SeqAt
open PySem.AutoSeq1 (wpAny_loadPart')
open PySem.MeetsSeq PySem.MeetsSeq2 PySem.MeetsSeq3
end
section
variable {prog:Program} {w:World} {A:Around} {E:Value→Shared→Prop} {s:Shared}
theorem cat_tup {t b:Addr} {vs ws:List Value} {Q:Value→Shared→Prop} (ht:IsTup s.heap t vs.toArray) (hb:IsTup s.heap b ws.toArray) (hv:vs≠[])
  (h1:ws=[]→Q (.ref t) s) (h2:ws≠[]→Q (.ref s.heap.objs.size) { s with heap:=s.heap.push { cls:=.type "tuple",data:=.seq (vs ++ ws).toArray } })
  (hsz:vs.length+ws.length≤sizeLine):wpAny (model prog w) A (binaryOp .Add (.ref t) (.ref b)) Q E s:=by
 obtain ⟨⟨cls,dd,data,sl⟩,ho,hc,n,hd⟩:=id ht
 obtain ⟨⟨cls2,dd2,data2,sl2⟩,ho2,hc2,n2,hd2⟩:=id hb
 simp only at hc hd hc2 hd2
 subst hc hd hc2 hd2
 have e:vs.toArray ++ ws.toArray=(vs ++ ws).toArray:=by simp
 by_cases hw:ws=[]
 · exact concat_meets ⟨_,ho,rfl⟩ ⟨_,ho2,rfl⟩ noFill_tuple_add seq_tuple_add PySem.F.slot_tuple_add PySem.F.entry_tuple_add (PySem.F.args_tuple_add_2 _ _)
    (tuple_addW1 t b vs.toArray ws.toArray n n2 dd dd2 sl sl2 (by simpa using hv) (by simp [hw])) ⟨ho,ho2,h1 hw⟩
 · refine concat_meets ⟨_,ho,rfl⟩ ⟨_,ho2,rfl⟩ noFill_tuple_add seq_tuple_add PySem.F.slot_tuple_add PySem.F.entry_tuple_add (PySem.F.args_tuple_add_2 _ _)
    (tuple_addW2 t b vs.toArray ws.toArray n n2 dd dd2 sl sl2 (by simpa using hv) (by simpa using hw) (by rw [List.size_toArray,List.size_toArray]; exact hsz)) ⟨ho,ho2,?_⟩
   rw [e]
   exact h2 hw
def sIx (n d:Nat):Option Int→Nat
 | none=>d
 | some v=>if v < 0 then (v+(n:Int)).toNat else min v.toNat n
theorem sIx_none (n d:Nat):sIx n d none=d:=rfl
theorem sIx_nat (n d k:Nat):sIx n d (some (k:Int))=min k n:=by
 show (if (k:Int) < 0 then ((k:Int)+(n:Int)).toNat else min (k:Int).toNat n)=min k n
 rw [if_neg (by omega),Int.toNat_natCast]
theorem sIx_le (n d:Nat) (hd:d≤n) (o:Option Int):sIx n d o≤n:=by
 cases o with
 | none=>exact hd
 | some v =>
   show (if v < 0 then (v+(n:Int)).toNat else min v.toNat n)≤n
   by_cases hv:v < 0
   · rw [if_pos hv]; omega
   · rw [if_neg hv]; exact Nat.min_le_right _ _
theorem clip_eq (v:Int) (n d:Nat):(if v < 0 then max (v+(n:Int)) 0 else min v (n:Int))=((sIx n d (some v):Nat):Int):=by
 show (if v < 0 then max (v+(n:Int)) 0 else min v (n:Int))=(((if v < 0 then (v+(n:Int)).toNat else min v.toNat n):Nat):Int)
 by_cases hv:v < 0
 · simp only [if_pos hv]; omega
 · simp only [if_neg hv]; omega
theorem adjust_gen (lo hi:Option Int) (n:Nat):Builtin.Slice.sliceAdjust lo hi 1 (n:Int)=(((sIx n 0 lo:Nat):Int),((sIx n n hi:Nat):Int)):=by
 have h1:¬ ((1:Int) < 0):=by omega
 unfold Builtin.Slice.sliceAdjust
 simp only [h1,if_false]
 refine Prod.ext ?_ ?_
 · cases lo with
   | none=>rfl
   | some v=>exact clip_eq v n 0
 · cases hi with
   | none=>rfl
   | some v=>exact clip_eq v n n
theorem places_gen (i j:Nat):Builtin.Slice.slicePlaces (i:Int) (j:Int) 1=j - i:=by
 unfold Builtin.Slice.slicePlaces
 have h1:(1:Int) > 0:=by omega
 simp only [h1,if_true,Int.ediv_one]
 split <;> omega
theorem slicePart_ {v:Value} {o:Option Int} {Q:Option Int→Shared→Prop} (p:IsPart v o) (h:Q o s):wpAny (model prog w) A (Builtin.Slice.slicePartIndex v) Q E s:=by
 cases p with
 | none=>exact slicePart_none h
 | int i t=>exact slicePart_int h
theorem sliceApplied_gen {sl:Addr} {vl vu:Value} {lo hi:Option Int} {n:Nat} {Q:Int×Int×Nat→Shared→Prop} (hs:s.heap.IsSliceOf sl vl vu .none) (pl:IsPart vl lo) (pu:IsPart vu hi)
  (h:Q (((sIx n 0 lo:Nat):Int),1,sIx n n hi - sIx n 0 lo) s):wpAny (model prog w) A (Builtin.Slice.sliceApplied (.ref sl) (pure (n:Int))) Q E s:=by
 obtain ⟨os,hos,hcs,hds⟩:=id hs
 unfold Builtin.Slice.sliceApplied Builtin.Slice.sliceFields
 refine wpAny_bind (wpAny_bind (wpAny_field hos hds (x:=vl) rfl (wpAny_bind (wpAny_field hos hds (x:=vu) rfl (wpAny_bind (wpAny_field hos hds (x:=.none) rfl (wpAny_pure ?_)))))))
 refine wpAny_bind (slicePart_none ?_)
 show wpAny _ _ (if ((1:Int) == 0)=true then _ else _) _ _ s
 rw [if_neg (by decide)]
 refine wpAny_bind (slicePart_ pl (wpAny_bind (slicePart_ pu (wpAny_bind (wpAny_pure ?_)))))
 show wpAny _ _ (match Builtin.Slice.sliceAdjust lo hi 1 (n:Int) with | (lo,hi)=>pure (lo,(1:Int),Builtin.Slice.slicePlaces lo hi 1)) _ _ s
 rw [adjust_gen lo hi n]
 show wpAny _ _ (pure (((sIx n 0 lo:Nat):Int),(1:Int),Builtin.Slice.slicePlaces ((sIx n 0 lo:Nat):Int) ((sIx n n hi:Nat):Int) 1)) _ _ s
 rw [places_gen]
 exact wpAny_pure h
theorem pick_gen (xs:Array Value) (i k:Nat):((List.range k).filterMap fun (m:Nat)=>xs[((i:Int)+(m:Int) * 1).toNat]?).toArray=((xs.toList.drop i).take k).toArray:=by
 have e:(fun (m:Nat)=>xs[((i:Int)+(m:Int) * 1).toNat]?)=fun m=>xs[i+m]?:=by
  funext m
  have:((i:Int)+(m:Int) * 1).toNat=i+m:=by omega
  rw [this]
 rw [e]
 have:=pick_run xs i k
 rw [List.filterMap_map] at this
 have e2:((fun x=>xs[x]?) ∘ fun x=>i+x)=fun m=>xs[i+m]?:=rfl
 rw [e2] at this
 rw [this]
theorem getItem_tuple_cut {t sl:Addr} {items:Array Value} {vl vu:Value} {lo hi:Option Int} {Q:Value→Shared→Prop} (ht:IsTup s.heap t items) (hs:s.heap.IsSliceOf sl vl vu .none) (pl:IsPart vl lo) (pu:IsPart vu hi)
  (hw:¬ (sIx items.size 0 lo=0∧sIx items.size items.size hi=items.size))
  (h:Q (.ref s.heap.objs.size) { s with heap:=s.heap.push { cls:=.type "tuple",data:=.seq ((items.toList.drop (sIx items.size 0 lo)).take (sIx items.size items.size hi - sIx items.size 0 lo)).toArray } })
  (hsz:items.size≤sizeLine):wpAny (model prog w) A (getItem (.ref t) (.ref sl)) Q E s:=by
 have htake:sizeOk (.seq ((items.toList.drop (sIx items.size 0 lo)).take (sIx items.size items.size hi - sIx items.size 0 lo)).toArray):=by
  show ((items.toList.drop (sIx items.size 0 lo)).take (sIx items.size items.size hi - sIx items.size 0 lo)).toArray.size≤sizeLine
  rw [List.size_toArray,List.length_take,List.length_drop,Array.length_toList]
  omega
 have hj:sIx items.size items.size hi≤items.size:=sIx_le _ _ (Nat.le_refl _) hi
 obtain ⟨os,hos,hcs,hds⟩:=id hs
 have hTs:s.TypeIs (.ref sl) "slice":=⟨os,hos,hcs⟩
 unfold getItem
 try with_reducible refine wpAny_holding ?_
 first | refine wpAny_bind (wpAny_pure ?_) | skip
 refine wpAny_bind (wpAny_sequenceKey ht.typeIs (by decide) ?_)
 refine wpAny_bind (wpAny_callSpecial?_slot (name:=Str.ofString "__getitem__") ht.typeIs PyProof.Rows.slot_tuple_getitem
  (wpAny_call_entry PyProof.Rows.slot_tuple_getitem ht.typeIs entry_tuple_getitem ?_ (args_tuple_getitem _ _)))
 show wpAny _ _ (Builtin.Tuple.tupleItemsOf (.ref t) >>= _) _ _ s
 refine wpAny_bind (tupleItemsOf_ ht ?_)
 refine wpAny_bind (wpAny_typeOf hTs ?_)
 rw [if_pos (by decide)]
 refine wpAny_bind (sliceApplied_gen hs pl pu ?_)
 have hno:¬ ((((sIx items.size 0 lo:Nat):Int) == 0 && (1:Int) == 1 && (sIx items.size items.size hi - sIx items.size 0 lo) == items.size)=true):=by
  intro q
  rw [Bool.and_eq_true,Bool.and_eq_true] at q
  have q1:((sIx items.size 0 lo:Nat):Int)=0:=eq_of_beq q.1.1
  have q2:sIx items.size items.size hi - sIx items.size 0 lo=items.size:=eq_of_beq q.2
  exact hw ⟨by omega,by omega⟩
 show wpAny _ _ (if (((sIx items.size 0 lo:Nat):Int) == 0 && (1:Int) == 1 && (sIx items.size items.size hi - sIx items.size 0 lo) == items.size)=true then _ else _) _ _ s
 rw [if_neg hno,pick_gen]
 first
  | exact wpAny_bind (m:=Builtin.Tuple.tupleExact _) (wpAny_newObj_type (wpAny_pure ⟨_,rfl,wpAny_pure h⟩) htake)
  | exact wpAny_bind (m:=Builtin.Tuple.tupleExact _) (wpAny_newObj_type (wpAny_bind (wpAny_pure (wpAny_pure ⟨_,rfl,wpAny_pure h⟩))) htake)
  | exact wpAny_bind (wpAny_bind (m:=Builtin.Tuple.tupleExact _) (wpAny_newObj_type (wpAny_pure (wpAny_pure ⟨_,rfl,wpAny_pure h⟩)) htake))
  | exact wpAny_bind (wpAny_bind (m:=Builtin.Tuple.tupleExact _) (wpAny_newObj_type (wpAny_pure ⟨_,rfl,wpAny_pure h⟩) htake))
end
end HT
namespace L2
open PySem PySem.Spec PyProof.Rows
abbrev TO:=St→Hp→(Option Int→Hp→Prop)→Prop
def PO (X:Cx) (e:Option Expr) (t:TO):Prop :=
 ∀ (pins:List (Addr×Obj)) (s:Shared) (σ:St) (H:Hp) (Q:Option Int→Hp→Prop),Inv X pins σ H s→t σ H Q →
  wpAny (model X.prog X.w) X.A (evalPart e X.env) (fun u s'=>∃ o H',Inv X pins σ H' s'∧IsPart u o∧Q o H') X.xe s
def tNoPart:TO:=fun _ H Q=>Q none H
def tPart (t:TE):TO:=fun σ H Q=>t σ H fun x H1=>∃ i,x = .int i∧Q (some i) H1
theorem intsAre_of {ns:List Int}:∀ {us:List Value},Vals (ns.map V.int) us→IntsAre us ns:=by
 induction ns with
 | nil=>intro us r; rw [List.map_nil] at r; cases r; exact .nil
 | cons n ns ih =>
   intro us r
   rw [List.map_cons] at r
   cases r with
   | cons r1 r2 =>
     obtain ⟨t,e⟩:=r1
     subst e
     exact .cons n t (ih r2)
section
variable {X:Cx} {e:Expr} {te:TE} {lo hi:Option Expr} {tl th:TO} {pos p2:Pos}
theorem po_none:PO X none tNoPart:=by
 intro pins s σ H Q I h
 rw [evalPart_none]
 exact wpAny_pure ⟨none,H,I,.none,h⟩
theorem po_some (h:PE X e te):PO X (some e) (tPart te):=by
 intro pins s σ H Q I hw
 rw [evalPart_some]
 refine thn (h pins s σ H _ I hw) fun u s1 ⟨x,H1,I1,r1,q1⟩=>?_
 obtain ⟨i,rfl,q⟩:=q1
 obtain ⟨t,rfl⟩:=r1
 exact ⟨some i,H1,I1,.int i t,q⟩
def SlR (X:Cx) (r:V→Option Int→Option Int→Hp→VK→Prop):Prop :=
 ∀ (pins:List (Addr×Obj)) (s:Shared) (σ:St) (H:Hp) (x:V) (v vl vu:Value) (lo hi:Option Int) (sl:Addr) (Q:VK),Inv X pins σ H s→RelV x v→s.heap.IsSliceOf sl vl vu .none→IsPart vl lo→IsPart vu hi→r x lo hi H Q →
  ∃ T id,typeLookup (.type T) "__getitem__" = pure (some (.builtin id))∧s.TypeIs v T∧wpAny (model X.prog X.w) X.A (getItem v (.ref sl)) (EP X pins σ Q) X.xe s
theorem SlR.or {r r':V→Option Int→Option Int→Hp→VK→Prop} (h:SlR X r) (h':SlR X r'):SlR X (fun x lo hi H Q=>r x lo hi H Q∨r' x lo hi H Q):=by
 intro pins s σ H x v vl vu lo hi sl Q I rx hs pl pu q
 rcases q with q | q
 · exact h pins s σ H x v vl vu lo hi sl Q I rx hs pl pu q
 · exact h' pins s σ H x v vl vu lo hi sl Q I rx hs pl pu q
def tSl (r:V→Option Int→Option Int→Hp→VK→Prop) (te:TE) (tl th:TO):TE:=fun σ H Q=>te σ H fun x H1=>tl σ H1 fun l H2=>th σ H2 fun u H3=>r x l u H3 Q
theorem pe_slice {r:V→Option Int→Option Int→Hp→VK→Prop} (hr:SlR X r) (he:PE X e te) (hl:PO X lo tl) (hu:PO X hi th):PE X (.Subscript e (.Slice lo hi none p2) pos) (tSl r te tl th):=by
 intro pins s σ H Q I h
 refine Subscript_ (thn (he pins s σ H _ I h) fun v s1 ⟨x,H1,I1,r1,q1⟩=>?_)
 refine wpAny_Slice (thn (hl pins s1 σ H1 _ I1 q1) fun vl s2 ⟨l,H2,I2,pl,q2⟩=>thn (hu pins s2 σ H2 _ I2 q2) fun vu s3 ⟨u,H3,I3,pu,q3⟩=>?_)
 rw [evalPart_none]
 refine wpAny_pure ?_
 have I4:Inv X pins σ H3 { s3 with heap:=s3.heap.push { cls:=.type "slice",data:=.fields #[vl,vu,.none] } }:=I3.kept (t':=s3.toks) fun b ob q=>Heap.get?_push_of_some _ q
 obtain ⟨T,id,hT,ht,hg⟩:=hr pins { s3 with heap:=s3.heap.push { cls:=.type "slice",data:=.fields #[vl,vu,.none] } } σ H3 x v vl vu l u s3.heap.objs.size Q I4 r1 (Heap.IsSliceOf.new ..) pl pu q3
 show wpAny (model X.prog X.w) X.A (subscriptTail e (.Slice lo hi none p2) v (.ref s3.heap.objs.size)) (EP X pins σ Q) X.xe { s3 with heap:=s3.heap.push { cls:=.type "slice",data:=.fields #[vl,vu,.none] } }
 exact tail_any (ops:=[.ref s3.heap.objs.size,v]) ht hT hg (by with_unfolding_all rfl)
def cutV (xs:List V) (lo hi:Option Int):List V:=(xs.drop (HT.sIx xs.length 0 lo)).take (HT.sIx xs.length xs.length hi - HT.sIx xs.length 0 lo)
theorem cutV_length (xs:List V) (lo hi:Option Int):(cutV xs lo hi).length≤xs.length:=by
 unfold cutV
 rw [List.length_take,List.length_drop]
 omega
def rSlT (K:PySem.W.Frag):V→Option Int→Option Int→Hp→VK→Prop:=fun x lo hi H Q=>∃ a xs,x = .ref a∧SqT K H a xs ∧
 ¬ (HT.sIx xs.length 0 lo=0∧HT.sIx xs.length xs.length hi=xs.length)∧∀ p,H p=none→Q (.ref p) (upd H p (.tup (cutV xs lo hi)))
theorem sl_tup:SlR X (rSlT X.K):=by
 intro pins s σ H x v vl vu lo hi sl Q I rx hs pl pu h
 obtain ⟨a,xs,rfl,hx,hw,q⟩:=h
 cases rx
 obtain ⟨its,r,ht,hz⟩:=I.tuple hx
 have hlen:its.toArray.size=xs.length:=by rw [List.size_toArray]; exact r.length.symm
 refine ⟨"tuple",_,PyProof.Rows.slot_tuple_getitem.lookup,ht.typeIs,?_⟩
 refine HT.getItem_tuple_cut ht hs pl pu (by rw [hlen]; exact hw) ?_ (by rw [hlen]; exact hz)
 rw [hlen]
 refine ⟨.ref s.heap.objs.size,_,I.laid (t':=s.toks) (o:=.tup (cutV xs lo hi)) (fun b ob q=>Heap.get?_push_of_some _ q) (Nat.le_refl _) ?_,rfl,q _ (I.hok.fresh (Nat.le_refl _))⟩
 exact ⟨Nat.le_trans (cutV_length xs lo hi) hz,_,(r.drop (HT.sIx xs.length 0 lo)).take (HT.sIx xs.length xs.length hi - HT.sIx xs.length 0 lo),IsTup.new _ _⟩
theorem Vals.nil_iff {xs:List V} {us:List Value} (r:Vals xs us):us=[]↔xs=[]:=by
 cases r with
 | nil=>simp
 | cons _ _=>simp
end
end L2
namespace L2
open PySem PySem.Spec PyProof.Rows
def ixN (n:Nat) (i:Int):Option Nat:=if 0≤i then (if i < n then some i.toNat else none) else if -(n:Int)≤i then some (i+n).toNat else none
def atI {α:Type} (xs:List α) (i:Int):Option α:=(ixN xs.length i).bind fun j=>xs[j]?
theorem ixN_seq {n:Nat} {i:Int} {j:Nat} (h:ixN n i=some j):seqIndex? i n=some j∧j < n∧-(n:Int)≤i∧i < n:=by
 unfold ixN at h
 by_cases h0:0≤i
 · rw [if_pos h0] at h
   by_cases h1:i < n
   · rw [if_pos h1] at h
     have e:i.toNat=j:=Option.some.inj h
     exact ⟨by rw [seqIndex_of h0 h1,e],by omega,by omega,h1⟩
   · rw [if_neg h1] at h; cases h
 · rw [if_neg h0] at h
   by_cases h1 : -(n:Int)≤i
   · rw [if_pos h1] at h
     have e:(i+n).toNat=j:=Option.some.inj h
     exact ⟨by rw [seqIndex_neg (by omega) h1,e],by omega,h1,by omega⟩
   · rw [if_neg h1] at h; cases h
theorem atI_get {α:Type} {xs:List α} {i:Int} {v:α} (h:atI xs i=some v):∃ j,seqIndex? i xs.length=some j∧xs[j]?=some v∧j < xs.length∧-(xs.length:Int)≤i∧i < xs.length:=by
 unfold atI at h
 cases e:ixN xs.length i with
 | none=>rw [e] at h; cases h
 | some j =>
   rw [e] at h
   obtain ⟨h1,h2,h3,h4⟩:=ixN_seq e
   exact ⟨j,h1,h,h2,h3,h4⟩
theorem atI_nat {α:Type} {xs:List α} {j:Nat} {v:α} (h:xs[j]?=some v):atI xs (j:Int)=some v:=by
 have hj:j < xs.length:=(List.getElem?_eq_some_iff.mp h).1
 have e:ixN xs.length (j:Int)=some j:=by
  unfold ixN
  rw [if_pos (by omega),if_pos (by omega)]; simp
 unfold atI; rw [e]; exact h
def PlainIx (b:Expr):Prop:=∀ o i,subscripted b false o i=operate [o,i] (getItem o i)
def IxR (X:Cx) (r:R2):Prop :=
 ∀ (value slice:Expr) (pins:List (Addr×Obj)) (s:Shared) (σ:St) (H:Hp) (x y:V) (v u:Value) (Q:VK),Inv X pins σ H s→RelV x v→RelV y u→r x y H Q →
  subscripted slice false v u=operate [v,u] (getItem v u)→wpAny (model X.prog X.w) X.A (subscriptTail value slice v u) (EP X pins σ Q) X.xe s
def MtR (X:Cx) (id:String) (r:V→List V→Hp→VK→Prop):Prop :=
 ∀ (pins:List (Addr×Obj)) (s:Shared) (σ:St) (H:Hp) (x:V) (xs:List V) (v:Value) (us:List Value) (Q:VK),Inv X pins σ H s→RelV x v→Vals xs us→r x xs H Q →
  wpAny (model X.prog X.w) X.A (call (.builtin id) (v :: us)) (EP X pins σ Q) X.xe s
section
variable {X:Cx} {a b:Expr} {ta tb:TE} {pos:Pos}
theorem IxR.or {r r':R2} (h:IxR X r) (h':IxR X r'):IxR X (fun x y H Q=>r x y H Q∨r' x y H Q):=by
 intro value slice pins s σ H x y v u Q I rx ry q hs
 rcases q with q | q
 · exact h value slice pins s σ H x y v u Q I rx ry q hs
 · exact h' value slice pins s σ H x y v u Q I rx ry q hs
theorem pe_ix {r:R2} (hr:IxR X r) (ha:PE X a ta) (hb:PE X b tb) (hs:PlainIx b):PE X (.Subscript a b pos) (tOp r ta tb):=by
 intro pins s σ H Q I h
 exact Subscript_ (binT ha hb I h fun v u s2 x y H2 I2 rx ry q=>hr a b pins s2 σ H2 x y v u Q I2 rx ry q (hs _ _))
def rIxL (K:PySem.W.Frag):R2:=fun x y H Q=>∃ p xs i v,x = .ref p∧y = .int i∧SqL K H p xs∧atI xs i=some v∧Q v H
def rIxT (K:PySem.W.Frag):R2:=fun x y H Q=>∃ p xs i v,x = .ref p∧y = .int i∧SqT K H p xs∧atI xs i=some v∧Q v H
def rIxS:R2:=fun x y H Q=>∃ z i c,x = .str z∧y = .int i∧z.length≤sizeLine∧atI z.cps.toList i=some c∧Q (.str ⟨#[c]⟩) H
theorem ix_list:IxR X (rIxL X.K):=by
 intro value slice pins s σ H x y v u Q I rx ry h hs
 obtain ⟨p,xs,i,z,rfl,rfl,hq,he,q⟩:=h
 cases rx
 obtain ⟨t,rfl⟩:=ry
 obtain ⟨its,r,pl,hz⟩:=I.list hq
 obtain ⟨j,h1,h2,h3,h4,h5⟩:=atI_get he
 obtain ⟨w,ew,rw'⟩:=r.get h2
 have hl:=r.length
 have hn:=line63
 have fin:EP X pins σ Q w s:=⟨z,H,I,rw',q⟩
 by_cases h0:0≤i
 · have hj:i.toNat=j:=by
    rw [seqIndex_of h0 h5] at h1
    exact Option.some.inj h1
   exact item_listR pl.isList h0 (by omega) (by rw [hj]; simpa using ew) fin hs
 · have hj:(i+(its.toArray.size:Int)).toNat=j:=by
    rw [seqIndex_neg (by omega) h4] at h1
    rw [List.size_toArray,← hl]
    exact Option.some.inj h1
   exact subscriptTail_builtinR (x:=w) pl.isList.typeIs slot_list_getitem.lookup
    (wpAny_getItem_list_neg (Q:=fun r s'=>r=w∧EP X pins σ Q r s') pl.isList (by omega) (by rw [List.size_toArray] <;> omega) (by omega) (by rw [hj]; simpa using ew) ⟨rfl,fin⟩) hs
theorem ix_tup:IxR X (rIxT X.K):=by
 intro value slice pins s σ H x y v u Q I rx ry h hs
 obtain ⟨p,xs,i,z,rfl,rfl,hq,he,q⟩:=h
 cases rx
 obtain ⟨t,rfl⟩:=ry
 obtain ⟨its,r,pl,hz⟩:=I.tuple hq
 obtain ⟨j,h1,h2,h3,h4,h5⟩:=atI_get he
 obtain ⟨w,ew,rw'⟩:=r.get h2
 have hl:=r.length
 have hn:=line63
 have fin:EP X pins σ Q w s:=⟨z,H,I,rw',q⟩
 exact subscriptTail_builtinR (x:=w) pl.typeIs slot_tuple_getitem.lookup
  (getItem_tuple (j:=j) (Q:=fun r s'=>r=w∧EP X pins σ Q r s') pl (by omega) (by omega) (by rw [List.size_toArray,← hl]; exact h1) (by simpa using ew) ⟨rfl,fin⟩) hs
theorem ix_str:IxR X rIxS:=by
 intro value slice pins s σ H x y v u Q I rx ry h hs
 obtain ⟨z,i,c,rfl,rfl,hz,he,q⟩:=h
 obtain ⟨t,rfl⟩:=rx
 obtain ⟨t',rfl⟩:=ry
 obtain ⟨j,h1,h2,h3,h4,h5⟩:=atI_get he
 have hl:z.cps.toList.length=z.length:=by simp [Str.length]
 rw [hl] at h1 h4 h5
 have hn:=line63
 exact tail_any (typeIs_str s z t) slot_str_getitem.lookup (getItem_str (c:=c) (by
  have e1:decide (i < -(2 ^ 63:Int))=false:=decide_eq_false (by omega)
  have e2:decide (i ≥ 2 ^ 63)=false:=decide_eq_false (by omega)
  rw [e1,e2,Bool.or_false]) (by rw [h1]; simpa using h2) ⟨.str ⟨#[c]⟩,H,I.tok _,⟨_,rfl⟩,q⟩) hs
def rIx (K:PySem.W.Frag):R2:=fun x y H Q=>rIxL K x y H Q∨rIxT K x y H Q∨rIxS x y H Q
theorem ix_seq:IxR X (rIx X.K):=ix_list.or (ix_tup.or ix_str)
theorem slice_bounds (lo hi:Option Int) (n:Nat):(sliceBounds lo hi none n).1=((HT.sIx n 0 lo:Nat):Int)∧(sliceBounds lo hi none n).2.1=((HT.sIx n n hi:Nat):Int)∧(sliceBounds lo hi none n).2.2=1:=by
 refine ⟨?_,?_,rfl⟩
 · cases lo with
   | none=>simp [sliceBounds,HT.sIx]
   | some i =>
     simp only [sliceBounds,HT.sIx,Option.getD_none,show (1:Int) > 0 by decide,if_true]
     by_cases h:i < 0
     · simp only [h,if_true] <;> omega
     · simp only [h,if_false] <;> omega
 · cases hi with
   | none=>simp [sliceBounds,HT.sIx]
   | some i =>
     simp only [sliceBounds,HT.sIx,Option.getD_none,show (1:Int) > 0 by decide,if_true]
     by_cases h:i < 0
     · simp only [h,if_true] <;> omega
     · simp only [h,if_false] <;> omega
theorem slicePick_cut (its:List Value) (lo hi:Option Int):slicePick its.toArray lo hi none=((its.drop (HT.sIx its.length 0 lo)).take (HT.sIx its.length its.length hi - HT.sIx its.length 0 lo)).toArray:=by
 obtain ⟨h1,h2,h3⟩:=slice_bounds lo hi its.toArray.size
 unfold slicePick
 rw [h1,h2,h3]
 simp only [sliceRange_one,pick_run,List.size_toArray] <;> rfl
def rSlL (K:PySem.W.Frag):V→Option Int→Option Int→Hp→VK→Prop:=fun x lo hi H Q=>∃ a xs,x = .ref a∧SqL K H a xs∧∀ p,H p=none→Q (.ref p) (upd H p (.lst (cutV xs lo hi)))
theorem sl_list:SlR X (rSlL X.K):=by
 intro pins s σ H x v vl vu lo hi sl Q I rx hs pl pu h
 obtain ⟨a,xs,rfl,hx,q⟩:=h
 cases rx
 obtain ⟨its,r,ht,hz⟩:=I.list hx
 have hlen:=r.length
 refine ⟨"list",_,slot_list_getitem.lookup,ht.isList.typeIs,?_⟩
 refine wpAny_getItem_list_slice ht.isList hs pl pu .none (by simp) ?_ (by rw [List.size_toArray] <;> omega)
 rw [slicePick_cut,← hlen]
 refine ⟨.ref s.heap.objs.size,_,I.laid (t':=s.toks) (o:=.lst (cutV xs lo hi)) (fun b ob q=>Heap.get?_push_of_some _ q) (Nat.le_refl _) ?_,rfl,q _ (I.hok.fresh (Nat.le_refl _))⟩
 exact ⟨Nat.le_trans (cutV_length xs lo hi) hz,_,0,(r.drop (HT.sIx xs.length 0 lo)).take (HT.sIx xs.length xs.length hi - HT.sIx xs.length 0 lo),Heap.get?_push_size _ rfl⟩
def flatV:V→Bool
 | .non=>true
 | .bl _=>true
 | .int _=>true
 | .str _=>true
 | _=>false
def eqV:V→V→Bool
 | .non,.non=>true
 | .bl a,.bl b=>a == b
 | .bl a,.int b=>(if a then 1 else 0) == b
 | .int a,.bl b=>a == (if b then 1 else 0)
 | .int a,.int b=>a == b
 | .str a,.str b=>a == b
 | _,_=>false
theorem eqAt_V {A:Around} {s:Shared} {y x:V} {u v:Value} (ry:RelV y u) (rx:RelV x v) (fy:flatV y=true) (fx:flatV x=true):SeqAt.EqAt A s u v (eqV y x):=by
 cases y with
 | non =>
   cases ry
   cases x with
   | non=>cases rx; exact SeqAt.EqAt.same _
   | bl b=>cases rx; exact SeqAt.EqAt.none_bool b
   | int b=>obtain ⟨t,rfl⟩:=rx; exact SeqAt.EqAt.none_int b t
   | str b=>obtain ⟨t,rfl⟩:=rx; exact SeqAt.EqAt.none_str b t
   | _=>exact absurd (show false=true from fx) Bool.false_ne_true
 | bl a =>
   cases ry
   cases x with
   | non=>cases rx; exact SeqAt.EqAt.bool_none a
   | bl b=>cases rx; exact SeqAt.EqAt.bool_bool a b
   | int b=>obtain ⟨t,rfl⟩:=rx; exact SeqAt.EqAt.bool_int a b t
   | str b=>obtain ⟨t,rfl⟩:=rx; exact SeqAt.EqAt.bool_str a b t
   | _=>exact absurd (show false=true from fx) Bool.false_ne_true
 | int a =>
   obtain ⟨t',rfl⟩:=ry
   cases x with
   | non=>cases rx; exact SeqAt.EqAt.int_none a t'
   | bl b=>cases rx; exact SeqAt.EqAt.int_bool a t' b
   | int b=>obtain ⟨t,rfl⟩:=rx; exact SeqAt.EqAt.int_int a t' b t
   | str b=>obtain ⟨t,rfl⟩:=rx; exact SeqAt.EqAt.int_str a t' b t
   | _=>exact absurd (show false=true from fx) Bool.false_ne_true
 | str a =>
   obtain ⟨t',rfl⟩:=ry
   cases x with
   | non=>cases rx; exact SeqAt.EqAt.str_none a t'
   | bl b=>cases rx; exact SeqAt.EqAt.str_bool a t' b
   | int b=>obtain ⟨t,rfl⟩:=rx; exact SeqAt.EqAt.str_int a t' b t
   | str b=>obtain ⟨t,rfl⟩:=rx; exact SeqAt.EqAt.str_str a t' b t
   | _=>exact absurd (show false=true from fx) Bool.false_ne_true
 | _=>exact absurd (show false=true from fy) Bool.false_ne_true
def eqU (x:V) (u:Value):Bool:=match u with
 | .none=>eqV .non x
 | .bool b=>eqV (.bl b) x
 | .int i _=>eqV (.int i) x
 | .str z _=>eqV (.str z) x
 | _=>false
theorem eqU_of {x y:V} {u:Value} (r:RelV y u) (f:flatV y=true):eqU x u=eqV y x:=by
 cases y with
 | non=>cases r; rfl
 | bl b=>cases r; rfl
 | int i=>obtain ⟨t,rfl⟩:=r; rfl
 | str z=>obtain ⟨t,rfl⟩:=r; rfl
 | _=>exact absurd (show false=true from f) Bool.false_ne_true
theorem any_eqU {x:V}:∀ {xs:List V} {us:List Value},Vals xs us→xs.all flatV=true→us.any (eqU x)=xs.any fun y=>eqV y x
 | _,_,.nil,_=>rfl
 | y :: xs,u :: us,.cons r t,f=>by
   rw [List.all_cons,Bool.and_eq_true] at f
   rw [List.any_cons,List.any_cons,eqU_of r f.1,any_eqU t f.2]
theorem mem_eqAt {A:Around} {s:Shared} {x:V} {v:Value} (rx:RelV x v) (fx:flatV x=true):∀ {xs:List V} {us:List Value},Vals xs us→xs.all flatV=true→∀ u∈us,SeqAt.EqAt A s u v (eqU x u)
 | _,_,.nil,_=>fun u hu=>by cases hu
 | y :: xs,u :: us,.cons r t,f=>fun u' hu=>by
   rw [List.all_cons,Bool.and_eq_true] at f
   rcases List.mem_cons.mp hu with rfl | hu
   · rw [eqU_of r f.1]; exact eqAt_V r rx f.1 fx
   · exact mem_eqAt rx fx t f.2 u' hu
def inV (x:V) (xs:List V):Bool:=xs.any fun y=>eqV y x
def rIn (K:PySem.W.Frag) (neg:Bool):R2:=fun x y H Q=>∃ p xs,y = .ref p∧(SqL K H p xs∨SqT K H p xs)∧flatV x=true∧xs.all flatV=true∧Q (.bl (if neg then !inV x xs else inV x xs)) H
theorem op_in_seq:OpR X (compareOp .In) (rIn X.K false):=by
 intro pins s σ H x y v u Q I rx ry h
 obtain ⟨p,xs,rfl,hq,fx,fs,q⟩:=h
 cases ry
 rcases hq with hq | hq
 · obtain ⟨its,r,pl,hz⟩:=I.list hq
   refine SeqAt.in_listAt (eqU x) pl.isList (fun w hw=>mem_eqAt rx fx r fs w (by simpa using hw)) ⟨.bl _,H,I,rfl,?_⟩
   rw [show its.toArray.any (eqU x)=its.any (eqU x) by simp,any_eqU r fs]
   exact q
 · obtain ⟨its,r,pl,hz⟩:=I.tuple hq
   refine SeqAt.in_tupleAt (eqU x) pl (fun w hw=>mem_eqAt rx fx r fs w (by simpa using hw)) ⟨.bl _,H,I,rfl,?_⟩
   rw [show its.toArray.any (eqU x)=its.any (eqU x) by simp,any_eqU r fs]
   exact q
theorem op_notIn_seq:OpR X (compareOp .NotIn) (rIn X.K true):=by
 intro pins s σ H x y v u Q I rx ry h
 obtain ⟨p,xs,rfl,hq,fx,fs,q⟩:=h
 cases ry
 rcases hq with hq | hq
 · obtain ⟨its,r,pl,hz⟩:=I.list hq
   refine SeqAt.notIn_listAt (eqU x) pl.isList (fun w hw=>mem_eqAt rx fx r fs w (by simpa using hw)) ⟨.bl _,H,I,rfl,?_⟩
   rw [show its.toArray.any (eqU x)=its.any (eqU x) by simp,any_eqU r fs]
   exact q
 · obtain ⟨its,r,pl,hz⟩:=I.tuple hq
   refine SeqAt.notIn_tupleAt (eqU x) pl (fun w hw=>mem_eqAt rx fx r fs w (by simpa using hw)) ⟨.bl _,H,I,rfl,?_⟩
   rw [show its.toArray.any (eqU x)=its.any (eqU x) by simp,any_eqU r fs]
   exact q
theorem op_notIn_str:OpR X (compareOp .NotIn) (fun x y H Q=>∃ i j,x = .str i∧y = .str j∧Q (.bl (!(!(Builtin.Str.occurrences j i 0 j.length 1).isEmpty))) H):=by
 intro pins s σ H x y v u Q I rx ry h
 obtain ⟨i,j,rfl,rfl,q⟩:=h
 obtain ⟨t,rfl⟩:=rx
 obtain ⟨t',rfl⟩:=ry
 exact notIn_str ⟨.bl _,H,I,rfl,q⟩
theorem call_len_seq:CallR X (.builtin "len") (fun xs H Q=>∃ p ys,xs=[.ref p]∧(SqL X.K H p ys∨SqT X.K H p ys)∧Q (.int ys.length) H):=by
 intro pins s σ H xs us Q I r h
 obtain ⟨p,ys,rfl,hq,q⟩:=h
 obtain ⟨u,rfl,rx⟩:=vals1 r
 cases rx
 have hn:=line63
 rcases hq with hq | hq
 · obtain ⟨its,r',pl,hz⟩:=I.list hq
   have hlen:=r'.length
   exact Calls.call_len_list pl.isList (by simp only [List.size_toArray] <;> omega) ⟨.int ys.length,H,I.tok _,⟨s.toks+1,by rw [List.size_toArray,hlen]⟩,q⟩
 · obtain ⟨its,r',pl,hz⟩:=I.tuple hq
   have hlen:=r'.length
   exact len_tuple pl (by simp only [List.size_toArray] <;> omega) ⟨.int ys.length,H,I.tok _,⟨s.toks+1,by rw [List.size_toArray,hlen]⟩,q⟩
theorem call_len_str:CallR X (.builtin "len") (fun xs H Q=>∃ z,xs=[.str z]∧z.length≤sizeLine∧Q (.int z.length) H):=by
 intro pins s σ H xs us Q I r h
 obtain ⟨z,rfl,hz,q⟩:=h
 obtain ⟨u,rfl,t,rfl⟩:=vals1 r
 have hn:=line63
 exact len_str (by omega) ⟨.int z.length,H,I.tok _,⟨_,rfl⟩,q⟩
theorem CallR.or {f:Value} {r r':List V→Hp→VK→Prop} (h:CallR X f r) (h':CallR X f r'):CallR X f (fun xs H Q=>r xs H Q∨r' xs H Q):=by
 intro pins s σ H xs us Q I rs q
 rcases q with q | q
 · exact h pins s σ H xs us Q I rs q
 · exact h' pins s σ H xs us Q I rs q
theorem call_list_of:CallR X (.type "list") (fun xs H Q=>∃ p ys,xs=[.ref p]∧(SqL X.K H p ys∨SqT X.K H p ys)∧∀ l,H l=none→Q (.ref l) (upd H l (.lst ys))):=by
 intro pins s σ H xs us Q I r h
 obtain ⟨p,ys,rfl,hq,q⟩:=h
 obtain ⟨u,rfl,rx⟩:=vals1 r
 cases rx
 have fin:∀ (its:List Value),Vals ys its→ys.length≤sizeLine→∀ (h':Heap) (c':Nat),(∀ b o',s.heap.get? b=some o'→h'.get? b=some o') →
   h'.get? s.heap.objs.size=some { cls:=.type "list",dict:=none,data:=.seq its.toArray c',slots:=#[] }→EP X pins σ Q (.ref s.heap.objs.size) { s with heap:=h' }:=fun its r' hz h' c' kp e =>
  ⟨.ref s.heap.objs.size,_,I.laid (t':=s.toks) kp (Nat.le_refl _) (show ObjOk X.prog X.w _ h' _ (.lst ys) from ⟨hz,its,c',r',e⟩),rfl,q _ (I.hok.fresh (Nat.le_refl _))⟩
 rcases hq with hq | hq
 · obtain ⟨its,r',pl,hz⟩:=I.list hq
   have hlen:=r'.length
   obtain ⟨o,ho,hc,n,hd⟩:=pl.isList
   exact call_list_seq p (.inl rfl) ho hc hd (fun h' c' kp e=>fin its r' hz h' c' kp e) (by simp only [List.size_toArray] <;> omega)
 · obtain ⟨its,r',pl,hz⟩:=I.tuple hq
   have hlen:=r'.length
   obtain ⟨o,ho,hc,n,hd⟩:=pl
   exact call_list_seq p (.inr rfl) ho hc hd (fun h' c' kp e=>fin its r' hz h' c' kp e) (by simp only [List.size_toArray] <;> omega)
def tyV (K:PySem.W.Frag) (T:String) (x:V) (H:Hp):Prop:=match x with
 | .str _=>T="str"
 | .int _=>T="int"
 | .ref p=>(T="list"∧∃ xs,SqL K H p xs)∨(T="tuple"∧∃ o,K.lookup p=some o∧o.cls = .type "tuple"∧o.dict=none) ∨
    (T="dict"∧((∃ kvs,H p=some (.dK kvs))∨∃ kvs,H p=some (.dT kvs)))∨(T="set"∧∃ S n,H p=some (.set S n))
 | _=>False
theorem tyV_is {pins:List (Addr×Obj)} {σ:St} {H:Hp} {s:Shared} {T:String} {x:V} {v:Value} (I:Inv X pins σ H s) (r:RelV x v) (ty:tyV X.K T x H) :
  s.TypeIs v T∧∀ a,v = .ref a→∃ ob,s.heap.get? a=some ob∧ob.dict=none:=by
 cases x with
 | str z =>
   obtain ⟨t,rfl⟩:=r
   cases (show T="str" from ty)
   exact ⟨typeIs_str s z t,fun _ e=>nomatch e⟩
 | int i =>
   obtain ⟨t,rfl⟩:=r
   cases (show T="int" from ty)
   exact ⟨typeIs_int s i t,fun _ e=>nomatch e⟩
 | ref p =>
   cases r
   rcases ty with ⟨rfl,xs,hq⟩ | ⟨rfl,o,hk,hc,hd⟩ | ⟨rfl,hk⟩ | ⟨rfl,S,n,hk⟩
   · obtain ⟨its,_,pl,_⟩:=I.list hq
     refine ⟨pl.isList.typeIs,fun a e=>?_⟩
     cases e
     obtain ⟨o,n,e,c,hd,_⟩:=pl
     exact ⟨o,e,hd⟩
   · refine ⟨⟨o,I.kIn p o hk,hc⟩,fun a e=>?_⟩
     cases e
     exact ⟨o,I.kIn _ o hk,hd⟩
   · have z:∃ o,s.heap.get? p=some o∧o.ExactDict:=by
      rcases hk with ⟨kvs,hk⟩ | ⟨kvs,hk⟩
      · obtain ⟨_,_,_,_,o,_,_,e,ex,_⟩:=I.hok p _ hk
        exact ⟨o,e,ex⟩
      · obtain ⟨_,_,_,_,o,_,_,e,ex,_⟩:=I.hok p _ hk
        exact ⟨o,e,ex⟩
     obtain ⟨o,e,ex⟩:=z
     refine ⟨⟨o,e,ex.1⟩,fun a e2=>?_⟩
     cases e2
     exact ⟨o,e,ex.2.1⟩
   · obtain ⟨o,_,_,_,e,ex,_⟩:=I.hok p _ hk
     refine ⟨⟨o,e,ex.1⟩,fun a e2=>?_⟩
     cases e2
     exact ⟨o,e,ex.2.1⟩
 | _=>exact False.elim ty
def tBM0 (K:PySem.W.Frag) (T:String) (r:V→List V→Hp→VK→Prop) (to:TE):TE:=fun σ H Q=>to σ H fun x H1=>tyV K T x H1∧r x [] H1 Q
def tBM (K:PySem.W.Frag) (T:String) (r:V→List V→Hp→VK→Prop) (to:TE) (t:TA):TE:=fun σ H Q=>to σ H fun x H1=>tyV K T x H1∧t σ H1 fun xs H2=>r x xs H2 Q
variable {o e:Expr} {es:List Expr} {to:TE} {t:TA} {name:Str} {apos cpos:Pos} {T id:String} {r:V→List V→Hp→VK→Prop}
theorem pe_bm0 (pa:PlainAttrs T) (slot:Slot T name id) (hty:typeOf (.builtin id)=pure (.type "method_descriptor")) (hm:MtR X id r) (ho:PE X o to)
  (hbase:attributeBase o name X.env (eval o X.env)=eval o X.env:=by rfl) (hline:(apos.endLine == cpos.line)=true:=by rfl):PE X (.Call (.Attribute o name apos) [] [] cpos) (tBM0 X.K T r to):=by
 intro pins s σ H Q I h
 refine wpAny_Call_method0_late hbase hline (thn (ho pins s σ H _ I h) fun v s1 ⟨x,H1,I1,r1,ty,q1⟩=>?_)
 obtain ⟨h1,h2⟩:=tyV_is I1 r1 ty
 exact ⟨T,id,pa,slot,hty,h1,h2,Calls.callWith_builtin rfl (PySem.evalArgs_none (hm pins s1 σ H1 x [] v [] Q I1 r1 .nil q1))⟩
theorem pe_bm (pa:PlainAttrs T) (slot:Slot T name id) (hty:typeOf (.builtin id)=pure (.type "method_descriptor")) (hm:MtR X id r) (ho:PE X o to) (ha:PA X (e :: es) t)
  (hbase:attributeBase o name X.env (eval o X.env)=eval o X.env:=by rfl)
  (hfew:((backTo cpos (starEach (e :: es) X.env)).all (fun x=>!x.1) && (backToKw cpos (keywordEach [] X.env)).all (fun x=>x.1.isSome)
    && decide ((e :: es).length+([]:List Keyword).length+(if ([]:List Keyword).isEmpty then 0 else 1) < 30))=true:=by rfl)
  (hline:(apos.endLine == cpos.line)=true:=by rfl) (hs:starEach (e :: es) X.env=(false,eval e X.env) :: starEach es X.env:=by rfl) (hplain:(backTo cpos (starEach es X.env)).any (·.1)=false:=by rfl) :
  PE X (.Call (.Attribute o name apos) (e :: es) [] cpos) (tBM X.K T r to t):=by
 intro pins s σ H Q I h
 refine wpAny_Call_method_late hbase hfew hline rfl (thn (ho pins s σ H _ I h) fun v s1 ⟨x,H1,I1,r1,ty,q1⟩=>?_)
 obtain ⟨h1,h2⟩:=tyV_is I1 r1 ty
 refine ⟨T,id,pa,slot,hty,h1,h2,?_⟩
 have hA:=ha cpos pins s1 σ H1 _ I1 q1
 rw [hs] at hA ⊢
 refine Calls.callWith_builtin (by show (false || (backTo cpos (starEach es X.env)).any (·.1))=false; rw [hplain] <;> rfl) (Calls.evalArgs_plain ?_)
 exact thn hA fun us s2 ⟨vs,H2,I2,r2,q2⟩=>hm pins s2 σ H2 x vs v us Q I2 r1 r2 q2
end
end L2
namespace L2
open PySem PySem.Spec PyProof.Rows
def MtM (X:Cx) (id:String) (r:V→List V→Hp→VK→Prop):Prop :=
 ∀ (pins:List (Addr×Obj)) (s:Shared) (σ:St) (H:Hp) (x:V) (xs:List V) (v:Value) (us:List Value) (Q:VK),Inv X pins σ H s→RelV x v→Vals xs us→r x xs H Q →
  wpAny (model X.prog X.w) X.A (call (.builtin id) (v :: us)) (EP X pins σ Q) X.xe s
theorem Vals.one:∀ {x:V} {us:List Value},Vals [x] us→∃ u,us=[u]∧RelV x u
 | _,_,.cons r .nil=>⟨_,rfl,r⟩
theorem Vals.zero:∀ {us:List Value},Vals [] us→us=[]
 | _,.nil=>rfl
theorem Vals.reverse {xs:List V} {us:List Value} (h:Vals xs us):Vals xs.reverse us.reverse:=by
 induction h with
 | nil=>exact .nil
 | cons r t ih=>rw [List.reverse_cons,List.reverse_cons]; exact Vals.append ih (.cons r .nil)
section
variable {X:Cx} {pins:List (Addr×Obj)} {σ:St} {H:Hp} {s:Shared} {l b:Addr} {xs ys zs:List V}
theorem Inv.lset {its its':List Value} {n:Nat} {f:Array Value→Array Value} {t':Nat} (I:Inv X pins σ H s) (hH:H l=some (.lst xs))
  (e:s.heap.get? l=some { cls:=.type "list",data:=.seq its.toArray n }) (hf:f its.toArray=its'.toArray) (hv:Vals ys its') (hz:ys.length≤sizeLine) :
  Inv X pins σ (upd H l (.lst ys)) { s with heap:=s.heap.update l (Obj.mapSeq f),toks:=t' }:=by
 have q:=PySem.IsL.update e f
 rw [hf] at q
 refine I.write (x:=l) (e:=l) (by rw [hH]; exact trivial) (.inl rfl) (fun b' u hb hu=>(Heap.get?_update_other s.heap (Obj.mapSeq f) (Ne.symm hb)).trans hu) ⟨_,q⟩ ?_
 exact ⟨hz,its',_,hv,q⟩
theorem Inv.lnew {its:List Value} {t':Nat} (I:Inv X pins σ H s) (hv:Vals ys its) (hz:ys.length≤sizeLine) :
  Inv X pins σ (upd H s.heap.objs.size (.lst ys)) { s with heap:=s.heap.push { cls:=.type "list",data:=.seq its.toArray },toks:=t' } :=
 I.laid (fun _ _ q=>Heap.get?_push_of_some _ q) (Nat.le_refl _) ⟨hz,its,0,hv,Heap.get?_push_size _ rfl⟩
theorem Inv.fresh (I:Inv X pins σ H s):H s.heap.objs.size=none:=I.hok.fresh (Nat.le_refl _)
theorem Inv.lstM (I:Inv X pins σ H s) (hH:H l=some (.lst xs)):xs.length≤sizeLine∧∃ (its:List Value) (n:Nat),Vals xs its∧xs.length=its.length∧s.heap.get? l=some { cls:=.type "list",data:=.seq its.toArray n }:=by
 obtain ⟨z,its,n,r,e⟩:=I.hok l _ hH
 exact ⟨z,its,n,r,r.length,e⟩
end
section
variable {X:Cx}
def rAppend:V→List V→Hp→VK→Prop:=fun x vs H Q=>∃ l xs y,x = .ref l∧vs=[y]∧H l=some (.lst xs)∧xs.length < sizeLine∧Q .non (upd H l (.lst (xs ++ [y])))
theorem mt_append:MtM X "list.append" rAppend:=by
 intro pins s σ H x vs v us Q I rx rv h
 obtain ⟨l,xs,y,rfl,rfl,hH,hz,q⟩:=h
 cases rx
 obtain ⟨u,rfl,ru⟩:=rv.one
 obtain ⟨z,its,n,r,hl,e⟩:=I.lstM hH
 refine call_meets F.slot_list_append ⟨_,e,rfl⟩ F.entry_list_append (F.args_list_append_2 _ _) (PySem.list_append l its.toArray n u (by rw [List.size_toArray]; omega)) ⟨e,?_⟩
 refine ⟨.non,_,I.lset (its':=its ++ [u]) hH e (by simp) (r.append (.cons ru .nil)) ?_,rfl,q⟩
 rw [List.length_append,List.length_singleton]
 omega
def rReverse:V→List V→Hp→VK→Prop:=fun x vs H Q=>∃ l xs,x = .ref l∧vs=[]∧H l=some (.lst xs)∧Q .non (upd H l (.lst xs.reverse))
theorem mt_reverse:MtM X "list.reverse" rReverse:=by
 intro pins s σ H x vs v us Q I rx rv h
 obtain ⟨l,xs,rfl,rfl,hH,q⟩:=h
 cases rx
 have hus:=rv.zero
 subst hus
 obtain ⟨z,its,n,r,hl,e⟩:=I.lstM hH
 refine call_meets F.slot_list_reverse ⟨_,e,rfl⟩ F.entry_list_reverse (F.args_list_reverse_1 _) (AutoSeq1.list_reverse_list_0 l its.toArray n (by rw [List.size_toArray]; omega)) ⟨e,?_⟩
 refine ⟨.non,_,I.lset (its':=its.reverse) hH e (by simp) r.reverse ?_,rfl,q⟩
 rw [List.length_reverse]
 omega
def rClear:V→List V→Hp→VK→Prop:=fun x vs H Q=>∃ l xs,x = .ref l∧vs=[]∧H l=some (.lst xs)∧Q .non (upd H l (.lst []))
theorem mt_clear:MtM X "list.clear" rClear:=by
 intro pins s σ H x vs v us Q I rx rv h
 obtain ⟨l,xs,rfl,rfl,hH,q⟩:=h
 cases rx
 have hus:=rv.zero
 subst hus
 obtain ⟨z,its,n,r,hl,e⟩:=I.lstM hH
 refine call_meets F.slot_list_clear ⟨_,e,rfl⟩ F.entry_list_clear (F.args_list_clear_1 _) (AutoSeq1.list_clear_list_0 l its.toArray n (by rw [List.size_toArray]; omega)) ⟨e,?_⟩
 exact ⟨.non,_,I.lset (its':=[]) (ys:=[]) hH e rfl .nil (Nat.zero_le _),rfl,q⟩
end
section
variable {prog:Program} {w:World} {A:Around} {E:Value→Shared→Prop} {s:Shared}
end
section
variable {X:Cx}
end
end L2
namespace Att
open PySem PySem.W PySem.Calls PyProof.Rows
theorem ints_of_wellAll {P:Params} {h:Heap}:∀ (ns:List Int) (vs:List Value),WellAll P h vs (ns.map WData.int)→IntsAre vs ns:=by
 intro ns
 induction ns with
 | nil =>
   intro vs w
   rw [List.map_nil] at w
   cases w
   exact .nil
 | cons n ns ih =>
   intro vs w
   rw [List.map_cons] at w
   cases w with
   | cons a b =>
     cases a
     exact .cons _ _ (ih _ b)
theorem script_of {l:OpenLaw} {n:Nat} (hn:l.most=some n) {P:Params} {h:Heap} {args:List WData} {vals:List Value}
  (hpre:l.row.toRowW.claim.pre args=true) (hwl:WellAll P h vals args) :
  ∃ a vs ns,vals=[Value.ref a]∧args=[WData.list (ns.map WData.int)]∧h.get? a=some { cls:=.type "list",data:=.seq vs.toArray }∧IntsAre vs ns∧ns.length≤n:=by
 have hsh:WShape.hasAll [] args [.list .int]=true:=(pre_splitW hpre).1
 have hc:l.pre.holds [] { args:=args }=true:=(pre_splitW hpre).2
 obtain ⟨d,r,rfl,h1,h2⟩:=hasAllW_cons hsh
 obtain rfl:=hasAllW_nil h2
 obtain ⟨xs,rfl,h3⟩:=hasW_list h1
 obtain ⟨ns,rfl⟩:=items_int h3
 have hlen:ns.length≤n:=by
  unfold OpenLaw.pre at hc
  have h4:(WTm.not (.lt (.lit (.int (n:Int))) (.len (.arg 0)))).holds [] { args:=[.list (ns.map .int)] }=true:=by
   have h4:=(holds_andW hc).1
   rw [hn] at h4
   exact h4
  have h5:=condW_of h4 (w_not (w_lt w_lit (w_len_list (w_arg rfl))))
  rw [List.length_map] at h5
  refine Nat.le_of_not_lt fun q=>?_
  have q':(n:Int) < ((ns.length:Nat):Int):=by omega
  first
   | (rw [decide_eq_true q'] at h5; exact absurd h5 (by decide))
   | (simp at h5; omega)
 cases hwl with
 | cons w1 w2 =>
   cases w2
   cases w1 with
   | list ho hall=>exact ⟨_,_,ns,rfl,rfl,ho,ints_of_wellAll ns _ hall,hlen⟩
theorem post_true (l:OpenLaw) (args:List WData):l.row.toRowW.claim.post args (.bool true) args=true :=
 postW_of (r:=l.row.toRowW) (X:=(true == true))
  (show WShape.has [] (.bool true) .bool=true by first | rfl | decide | simp [WShape.has,WShape.arms,WShape.armsAll])
  (show (WTm.eq .res (.lit (.bool true))).value [] { args:=args,res:=some (.bool true),after:=args }=some (.bool (true == true)) from w_eq_bool (w_res rfl) w_lit) rfl
theorem attach_call {l:OpenLaw} {n:Nat} {q:Program} {loose:List Str} {XP:(Str→Option Value)→Heap→Prop} {YP:World→Heap→Prop} {d:DefRec}
  (hn:l.most=some n) (hdf:d.params.defaults=[])
  (call:∀ (w:World) (s₀ s₁:Shared) (mg mb:Str→Option Value) (fa:Addr) (o:Obj) (pm cd doc:Value) (a:Addr) (vs:List Value) (ns:List Int),
    Ground q loose [] XP w s₀ mg mb s₁.heap→YP w s₁.heap →
    s₁.heap.get? fa=some o→o.data = .func (docDef d.name d.params d.body d.scope pm cd doc)→s₁.heap.CodeRec cd d.name→mg d.name=some (.ref fa) →
    s₁.heap.get? a=some { cls:=.type "list",data:=.seq vs.toArray }→IntsAre vs ns→ns.length≤n→s₁.gens = #[] →
    codeAny (model l.prog w) callerA (.call (.ref fa) ⟨[.ref a],[]⟩) (fun r s'=>r = .ok (.ret (.bool true))∧OldK s₁.heap s'.heap∧s'.os=s₁.os∧AllBare s'.gens) s₁) :
  WalkO q loose XP YP l.row.toRowW d [] (fun f vs=>PySem.call f vs):=by
 intro w s₀ s₁ mg mb G Y fa o pm cd doc dV kV ho hd hcd hD hmg hg args vals as hpre hlay hrd hwl hlo
 obtain rfl:dV = .none:=Dflts.none hD hdf
 obtain rfl:kV = .none:=Dflts.noKw hD
 obtain ⟨a,vs,ns,rfl,rfl,hobj,hints,hlen⟩:=script_of hn hpre hwl
 refine enter_call (codeAny_mono (call w s₀ s₁ mg mb fa o pm cd doc a vs ns G Y ho (fd_plain hd) hcd hmg hobj hints hlen hg) fun r s' hq=>?_)
 obtain ⟨rfl,h2,h3,h4⟩:=hq
 exact ⟨.inl ⟨.bool true,.bool true,[],rfl,fun _=>rfl,.bool true,post_true l _,fun _=>⟨List.Pairwise.nil,fun _ hm=>(nomatch hm)⟩⟩,h2,h3,h4⟩
section
variable {prog:Program} {w:World} {A:Around} {E:Value→Shared→Prop} {s:Shared} {K:Frag}
end
end Att
namespace L2
open PySem PySem.Spec PyProof.Rows
theorem vals_ints:∀ {vs:List Value} {ns:List Int},IntsAre vs ns→Vals (ns.map V.int) vs
 | _,_,.nil=>.nil
 | _,_,.cons n t h=>.cons ⟨t,rfl⟩ (vals_ints h)
def Only (H:Hp):Prop:=∀ b,H b=none∨∃ o xs,H b=some (.frz o (.lst xs))
end L2
namespace L2
open PySem PySem.Spec PyProof.Rows
end L2
namespace L2
open PySem PySem.Spec PyProof.Rows
def defArgs (s:Stmt):Arguments:=match s with
 | .FunctionDef _ a _ _ _ _ _ _ _ _=>a
 | _=>{ posonlyargs:=[],args:=[],vararg:=none,kwonlyargs:=[],kw_defaults:=[],kwarg:=none,defaults:=[] }
def defBody (s:Stmt):List Stmt:=match s with
 | .FunctionDef _ _ b _ _ _ _ _ _ _=>b
 | _=>[]
def defScope (s:Stmt):Scope:=match s with
 | .FunctionDef _ _ _ _ _ _ sc _ _ _=>sc
 | _=>{ kind:=.function,names:=[],isGenerator:=false,isCoroutine:=false }
abbrev CX0:CXT:=fun _ _ _ _ _ _=>False
abbrev E0:XK:=fun _ _ _=>False
theorem pass0 {X:Cx}:Passes CX0 X E0:=fun _ _ _ _ _ _ _ h=>h.elim
structure Fun (K:PySem.W.Frag) (x qual:Str) (st:Stmt) (f:Addr) (fd:FuncData):Prop where
 ex:∃ (oc:Value) (od:Option Addr) (kV doc pm:Value) (an:Option Addr) (cdv ct:Value) (osl:Array (Option Value)),
  fd=PySem.W.fnOf x qual (defArgs st) (defBody st) (defScope st) .none kV doc pm an cdv ct∧K.lookup f=some ⟨oc,od,.func fd,osl⟩∧PySem.W.codeIn K cdv qual=true
 kp:PySem.W.keepIn K (.ref f)=true
section
variable {P:Program} {w:World} {K:PySem.W.Frag} {mg:Str→Option Value} {base:Heap}
theorem Fun.ok {x qual:Str} {st:Stmt} {f:Addr} {fd:FuncData} {N ps:List Str} {k:Nat} {sp:Sp} (F:Fun K x qual st f fd) (S:FnScope N ps (defScope st)) (len:∀ vs H Q E,sp vs H Q E→vs.length=ps.length)
  (hbody:∀ (cdv:Value) (A:Around) (outer:List Env) (s:Shared) (H:Hp) (vs:List V) (Q:VK) (E:XK),Room k (A.deeper (envOfC qual (defScope st) s.heap.objs.size f cdv))→sp vs H Q E →
    ∃ t,PSs (cxOf CX0 P w K mg base N qual (defScope st) f cdv A outer s H E).nox (defBody st) t∧t { nx:=fun _ H'=>Q .non H',rt:=Q } (start N vs) H):FnOk P w K mg base CX0 (k+1) f fd ps sp:=by
 obtain ⟨oc,od,kV,doc,pm,an,cdv,ct,osl,rfl,lk,hcd⟩:=F.ex
 refine fn_of lk hcd S len fun A outer s H vs Q E hr hsp=>?_
 obtain ⟨t,h,q⟩:=hbody cdv A outer s H vs Q E hr hsp
 exact ⟨t,h.nox,q⟩
theorem Fun.binds {x qual:Str} {st:Stmt} {f:Addr} {fd:FuncData} {ps:List Str} (F:Fun K x qual st f fd)
  (h:∀ (kV doc pm:Value) (an:Option Addr) (cdv ct:Value) (us:List Value),us.length=ps.length→bindArgs (PySem.W.fnOf x qual (defArgs st) (defBody st) (defScope st) .none kV doc pm an cdv ct) ⟨us,[]⟩=pure (ps.zip us)):Binds K fd ps []:=by
 obtain ⟨oc,od,kV,doc,pm,an,cdv,ct,osl,rfl,lk,hcd⟩:=F.ex
 exact .all (h kV doc pm an cdv ct)
theorem fun_mk {x qual:Str} {st:Stmt} {f:Addr} {oc:Value} {od an:Option Addr} {osl:Array (Option Value)} {kV doc pm cdv ct:Value} (l:K.lookup f=some ⟨oc,od,.func (PySem.W.fnOf x qual (defArgs st) (defBody st) (defScope st) .none kV doc pm an cdv ct),osl⟩)
 (c:PySem.W.codeIn K cdv qual=true) (k:PySem.W.keepIn K (.ref f)=true):Fun K x qual st f (PySem.W.fnOf x qual (defArgs st) (defBody st) (defScope st) .none kV doc pm an cdv ct):=⟨⟨oc,od,kV,doc,pm,an,cdv,ct,osl,rfl,l,c⟩,k⟩
end
section
variable {X:Cx}
end
theorem iteF {A B:Prop} (h:B):if false=true then A else B:=by
 rw [if_neg Bool.false_ne_true]
 exact h
theorem iteT {A B:Prop} (h:A):if true=true then A else B:=by
 rw [if_pos rfl]
 exact h
def Same (H H':Hp):Prop:=∀ b o,H b=some o→H' b=some o
theorem Same.refl (H:Hp):Same H H:=fun _ _ h=>h
theorem Same.trans {H H1 H2:Hp} (a:Same H H1) (b:Same H1 H2):Same H H2:=fun c o h=>b c o (a c o h)
theorem Same.free {H H':Hp} (e:Same H H') {l:Addr} (h:H' l=Option.none):H l=Option.none:=by
 cases q:H l with
 | none=>rfl
 | some o =>
   rw [e l o q] at h
   cases h
end L2
namespace HE
open PySem PySem.W PySem.Calls PyProof.Rows
noncomputable def topRunT (tb:String→Option Builtin) (p:Program) (w:World) (n₀:Nat) (ann:Option Value):Nat→SharedT→Thread→Option SharedT
 | 0,_,_=>none
 | n+1,s,t=>match through t with
   | true=>some s
   | false=>match stepOk n₀ ann t with
     | false=>none
     | true=>match stepT (denote tb) p w s t with
       | some (s',t')=>topRunT tb p w n₀ ann n s' t'
       | none=>none
theorem topRun_of {tb:String→Option Builtin} {p:Program} {w:World} {n₀:Nat} {ann:Option Value}:∀ {n:Nat} {s s':SharedT} {t:Thread},topRunT tb p w n₀ ann n s t=some s'→topRun tb p w n₀ ann n s.abs t=some s'.abs
 | 0,_,_,_,h=>by cases h
 | n+1,s,s',t,h=>by
   unfold topRunT at h
   unfold topRun
   cases ht:through t with
   | true=>rw [ht] at h; cases h; rfl
   | false =>
     rw [ht] at h
     cases hk:stepOk n₀ ann t with
     | false=>rw [hk] at h; cases h
     | true =>
       rw [hk] at h
       cases hs:stepT (denote tb) p w s t with
       | none=>rw [hs] at h; cases h
       | some r=>obtain ⟨s₂,t₂⟩:=r; rw [hs] at h; rw [stepT_spec hs]; exact topRun_of h
noncomputable def mkT (l:List Obj):BT:=(l.foldl (fun (p:BT×Nat) o=>(p.1.ins p.2 o,p.2+1)) (.nil,0)).1
noncomputable def bootT (P:Params):BT:=mkT (boot_heap P).objs.toList
noncomputable def st0 (T:BT) (os:OsState):SharedT:=⟨T,11,{},Array.mk [],boot_drawn,boot_toks,os⟩
theorem boot_abs (P:Params):absHeap (bootT P) 11 {}=boot_heap P:=by kernel_rfl
theorem boot_size (P:Params):((boot_heap P).isNs mainGlobals,(boot_heap P).objs.size,(boot_heap P).nsMap mainGlobals "__annotations__")=(true,11,some (.ref 6)):=by kernel_rfl
noncomputable def runT (p:Program) (T:BT) (w:World) (M:Nat) (os:OsState):Option SharedT:=topRunT treeTable p w 11 (some (.ref 6)) M (st0 T os) (topStub p)
noncomputable def Kf (as:List Addr) (g:Addr→Option Obj):Frag:=as.filterMap fun a=>(g a).map fun o=>(a,o)
noncomputable def tg (T:BT) (n:Nat) (a:Addr):Option Obj:=match Nat.blt a n with
 | true=>alive ((T.get a).getD default)
 | false=>none
theorem tg_eq (T:BT) (n:Nat) (life:Life) (a:Addr):(absHeap T n life).get? a=tg T n a:=by
 unfold tg
 cases h:Nat.blt a n with
 | true =>
   have hn:a < n:=Nat.ble_eq.mp h
   cases g:T.get a with
   | some o=>rw [abs_get hn g]; rfl
   | none =>
     have e:=absHeap_at T n life a
     rw [if_pos hn,g] at e
     unfold Heap.get?
     rw [e]
     rfl
 | false =>
   have hn:¬ a < n:=fun z=>by
    have:Nat.blt a n=true:=Nat.ble_eq.mpr z
    rw [h] at this; cases this
   exact abs_get_none hn
abbrev XtF (q:Program) (lv:List (Str×WData)) (R:WRecords) (s:Shared):Bool:=xlAt q lv s && recOk R s
noncomputable def lookA (p q:Program) (loose:List Str) (lv:List (Str×WData)) (R:WRecords) (T:BT) (H0:Heap) (w:World) (M:Nat) (os:OsState) :=
 (runT p T w M os).map fun s=>((staticsOk (importedModules p.main.body) H0 s.abs.heap && namesBound p s.abs.heap && gensDone s.abs && laidKept H0 s.abs.heap),
   (openSeen q loose (importedModules p.main.body) (XtF q lv R) true s.abs).1,(openSeen q loose (importedModules p.main.body) (XtF q lv R) true s.abs).2.1)
noncomputable def lookB (p q:Program) (loose:List Str) (lv:List (Str×WData)) (R:WRecords) (T:BT) (w:World) (M:Nat) (os:OsState) :=
 (runT p T w M os).map fun s=>(openSeen q loose (importedModules p.main.body) (XtF q lv R) true s.abs).2.2
noncomputable def lookC {β:Type} (p:Program) (as:List Addr) (F:Frag→β) (T:BT) (w:World) (M:Nat) (os:OsState) :=
 (runT p T w M os).map fun s=>F (Kf as (tg s.tree s.n))
noncomputable def endG (p:Program) (N:Nat) (w:World) (a:Addr):Option Obj:=(openEnds treeTable p w N).bind (·.heap.get? a)
theorem head {p q:Program} {loose:List Str} {lv:List (Str×WData)} {R:WRecords} {as:List Addr} {N M:Nat} {β:Type} {F:Frag→β} {v:World→β}
  (e:opening p=plainProg p.main.scope.names) (hN:Nat.ble 600 N=true) (f:∀ s,fenceModules? p s=some s) (le:Nat.ble M N=true)
  (ra:∀ (w:World) (os:OsState),lookA p q loose lv R (bootT w.params) (boot_heap w.params) w M os=some (true,(openGood q loose).1,(openGood q loose).2.1))
  (rb:∀ (w:World) (os:OsState),lookB p q loose lv R (bootT w.params) w M os=some (openGood q loose).2.2)
  (rc:∀ (w:World) (os:OsState),lookC p as F (bootT w.params) w M os=some (v w)) :
  LeftO p q loose (XtF q lv R) (fun s=>as.map s.heap.get?) (fun w=>as.map (endG p N w)) N∧∀ w,F (Kf as (endG p N w))=v w:=by
 have key:∀ w,∃ s,openEnds treeTable p w N=some s∧openSeen q loose (importedModules p.main.body) (XtF q lv R) true s=openGood q loose∧F (Kf as s.heap.get?)=v w:=fun w=>by
  obtain ⟨⟨h,gs,d,k,os⟩,e1,e2⟩:=Option.map_eq_some_iff.mp (boot_open e hN f w)
  obtain ⟨rfl,rfl,rfl,rfl⟩:h=boot_heap w.params∧gs=Array.mk []∧d=boot_drawn∧k=boot_toks:=by simpa using e2
  obtain ⟨s,r1,r2⟩:=Option.map_eq_some_iff.mp (ra w os)
  obtain ⟨s',r1',rb'⟩:=Option.map_eq_some_iff.mp (rb w os)
  obtain ⟨s'',r1'',rc'⟩:=Option.map_eq_some_iff.mp (rc w os)
  obtain rfl:=Option.some.inj (r1.symm.trans r1')
  obtain rfl:=Option.some.inj (r1.symm.trans r1'')
  have r3:=congrArg (fun x=>x.1) r2
  have r4:=Prod.ext (congrArg (fun x=>x.2.1) r2) (Prod.ext (congrArg (fun x=>x.2.2) r2) rb')
  have r5:F (Kf as s.abs.heap.get?)=v w:=by
   rw [show s.abs.heap.get?=tg s.tree s.n from funext fun a=>tg_eq _ _ _ a]
   exact rc'
  have t1:=topRun_of r1
  have ea:(st0 (bootT w.params) os).abs=⟨boot_heap w.params,Array.mk [],boot_drawn,boot_toks,os⟩:=by
   show (⟨absHeap (bootT w.params) 11 {},_,_,_,_⟩:Shared)=_
   rw [boot_abs]; rfl
  rw [ea] at t1
  have t2:=topRun_mono (N - M) _ _ _ _ t1
  rw [show M+(N - M)=N by have:=Nat.le_of_ble_eq_true le; omega] at t2
  have z:=boot_size w.params
  have z1:=congrArg (fun x=>x.1) z
  have z2:=congrArg (fun x=>x.2.1) z
  have z3:=congrArg (fun x=>x.2.2) z
  refine ⟨s.abs,?_,r4,r5⟩
  unfold openEnds
  rw [e1]
  show topFrom treeTable p w N _=_
  unfold topFrom
  dsimp only at z1 z2 z3 ⊢
  rw [z1,z2,z3,t2]
  show (match staticsOk (importedModules p.main.body) (boot_heap w.params) s.abs.heap && namesBound p s.abs.heap && gensDone s.abs && laidKept (boot_heap w.params) s.abs.heap with | true=>_ | false=>_)=_
  have r3':(staticsOk (importedModules p.main.body) (boot_heap w.params) s.abs.heap && namesBound p s.abs.heap && gensDone s.abs && laidKept (boot_heap w.params) s.abs.heap)=true:=r3
  rw [r3']
 refine ⟨fun w=>?_,fun w=>?_⟩
 · obtain ⟨s,a,b,c⟩:=key w
   rw [a]
   have:endG p N w=s.heap.get?:=by funext x; unfold endG; rw [a]; rfl
   show some (openSeen q loose (importedModules p.main.body) (XtF q lv R) true s,as.map s.heap.get?)=some (openGood q loose,as.map (endG p N w))
   rw [b,this]
 · obtain ⟨s,a,b,c⟩:=key w
   have:endG p N w=s.heap.get?:=by funext x; unfold endG; rw [a]; rfl
   rw [this]
   exact c
theorem kf_in {as:List Addr} {g:Addr→Option Obj} {h:Heap} (e:as.map h.get?=as.map g):(Kf as g).In h:=by
 have key:∀ {as:List Addr},as.map h.get?=as.map g→∀ a o,(Kf as g).lookup a=some o→h.get? a=some o:=by
  intro as
  induction as with
  | nil=>intro _ a o z; cases z
  | cons x as ih =>
    intro e a o z
    injection e with e1 e2
    unfold Kf at z
    rw [List.filterMap_cons] at z
    cases hg:g x with
    | none=>rw [hg] at z; exact ih e2 a o z
    | some o' =>
      rw [hg] at z
      simp only [Option.map_some,List.lookup_cons] at z
      split at z
      · rename_i q
        have:a=x:=by simpa using q
        subst this
        cases z
        rw [e1,hg]
      · exact ih e2 a o z
 exact fun a o z=>key e a o z
theorem walkX_of {q:Program} {loose:List Str} {XP:(Str→Option Value)→Heap→Prop} {as:List Addr} {g:World→Addr→Option Obj} {r:RowW} {d:DefRec} {kwd:List (Str×Expr)} {run:Value→List Value→Sem Value}
  (h:WalkO q loose XP (fun w h=>(Kf as (g w)).In h) r d kwd run):WalkX q loose XP (fun s=>as.map s.heap.get?) (fun w=>as.map (g w)) r d kwd run :=
 fun w s₀ s₁ mg mb G y a o pm cd doc dV kV h1 h2 h3 h4 h5 h6 args vals as' L hpre hlay hrd hwl hlo=>h w s₀ s₁ mg mb G (fun b o' z=>Laid.keeps L _ _ (kf_in y b o' z)) a o pm cd doc dV kV h1 h2 h3 h4 h5 h6 args vals as' hpre hlay hrd hwl hlo
noncomputable def recOf:Stmt→DefRec
 | .FunctionDef n ps b _ _ _ sc _ _ p=>⟨n,ps,b,sc,p⟩
 | _=>⟨Str.empty,default,[],default,default⟩
end HE
lay_quick HE.lookA HE.lookB HE.lookC
namespace EX
open PySem PySem.Spec PySem.Calls PyProof.Rows L2
open PySem.W (findIn typeIn clsIn subIn mroIn specialIn takesIn kitOne)
abbrev bmV:List Value:=[.type "ValueError",.type "Exception",.type "BaseException",.type "object"]
def keyB:Value→Bool
 | .str _ _=>true
 | _=>false
def tlB (K:PySem.W.Frag) (a:Addr):Bool:=match K.lookup a with
 | some ⟨_,_,.cls cd,_⟩=>(match K.lookup cd.ns with
   | some ⟨_,_,.dict es _,_⟩=>es.toList.all (fun e=>keyB e.key) && (nsFind es "__init__").isNone
   | _=>false)
 | _=>false
def xcB (K:PySem.W.Frag) (C:Addr) (tl:List Addr):Bool:=match K.lookup C with
 | some ⟨c,_,.cls cd,sl⟩=>c == .type "type" && (cd.mro == (Value.ref C :: (tl.map Value.ref ++ bmV)) && (cd.hasDict && (!cd.hasDel && ((match sl.toList with
   | [_,_,_,_,some v,_]=>v == .builtin "ValueError.__new__"
   | _=>false) && tl.all (tlB K)))))
 | _=>false
def xfB (K:PySem.W.Frag) (C:Addr):Bool:=findIn K (.ref C) "__getattribute__" == some (some (.builtin "BaseException.__getattribute__")) && (findIn K (.ref C) "__getattr__" == some none && (findIn K (.ref C) "__setattr__" == some (some (.builtin "object.__setattr__")) &&
 (findIn K (.ref C) "place" == some none && (findIn K (.ref C) "__class__" == some (some (.builtin "object.__class__")) && (subIn K (.ref C) (.type "BaseException") == some true && (mroIn K C (.type "object") == some true &&
 (specialIn K (.builtin "object.__class__") "__get__" == some (some (.builtin "getset_descriptor.__get__")) && takesIn K (.builtin "object.__class__") == some true)))))))
def kaB (K:PySem.W.Frag) (cl:List Addr) (S:Addr):Bool:=cl.all fun C=>xcB K C [S] && (xfB K C && (kitOne K (.ref C) (.type "ValueError") == some true && cl.all fun D=>kitOne K (.ref C) (.ref D) == some (decide (C=D))))
def krB (K:PySem.W.Frag) (cs cl:List Addr) (S:Addr):Bool:=cs.all fun C=>xcB K C [S] && (xfB K C && (kitOne K (.ref C) (.type "ValueError") == some true && cl.all fun D=>kitOne K (.ref C) (.ref D) == some (decide (C=D))))
end EX
namespace CLO
open PySem
def tabB (K:PySem.W.Frag) (c P0:Addr):Bool:=(match K.lookup c with
 | some ⟨_,_,Data.fields vs,_⟩=>(match (vs[11]?:Option Value) with
   | some (.ref p)=>p == P0
   | _=>false)
 | _=>false) && (K.lookup P0).isNone
end CLO
namespace K76Z
open PySem L2
abbrev pE:Program:=PySem.Challenge.pw_slicewise_k76_the_fewest_parts
noncomputable def qE:Program:=PySem.W.view pE [1,3,4,5,6,7,8,9,10,11,12,14,15,16,17,19,20,21,22,23,24,25,26]
def loE:List Str:=[]
theorem runA (w:World) (os:OsState):HE.lookA pE qE loE [] [] (HE.bootT (w).params) (PySem.W.boot_heap (w).params) (w) 2663 os=some (true,(PySem.W.openGood qE loE).1,(PySem.W.openGood qE loE).2.1):=by
 rw [PySem.W.Fast.te2848547177322276819]
 kernel_rfl
theorem runB (w:World) (os:OsState):HE.lookB pE qE loE [] [] (HE.bootT (w).params) (w) 2663 os=some (PySem.W.openGood qE loE).2.2:=by
 rw [PySem.W.Fast.te312265020846911052]
 kernel_rfl
noncomputable def tY (i:Nat):Stmt:=pE.main.body.getD i (.Pass ⟨0,0,0,0⟩)
noncomputable def asE:List Addr:=[0,1,2,3,4,5,6,7,8,9,10,11,12,13,14,15,16,17,18,19,20,27,28,29,30,33,40,41,42,45,52,53,54,57,64,65,66,69,76,77,78,81,88,89,90,93,100,101,102,103,104,105,106,107,108,109,112,119,120,121,122,123,124,125,126,127,128,131,138,139,140,141,142,143,144,145,146,147,150,157,158,159,160,161,162,163,164,165,166,169,170,171,172,173,174,175,176,177,178,179,180,181,182,183,184,185,186,187,188,189,190,191,192,193,194,195,196,197,198,199,200,201,202,203,204,205,207,208,209,210,211,212,214,215,216,217,218,219,220,221,222,223,224,225,226,227,228,229,230,231,232,233,234,235,236,237,238,239,240]
abbrev OV:=Option (Option Value)
abbrev OO:=Option Obj
abbrev N (K:PySem.W.Frag) (x:Str):=PySem.W.nsIn K mainGlobals x
abbrev Lk (K:PySem.W.Frag) (a:Addr):=List.lookup a K
abbrev R (a:Addr):OV:=some (some (.ref a))
abbrev fo (x q:Str) (st:Stmt) (pm:Value) (c:Addr):OO:=some ⟨.type "function",none,.func (PySem.W.fnOf x q (defArgs st) (defBody st) (defScope st) .none .none .none pm none (.ref c) .none),#[]⟩
abbrev cI (K:PySem.W.Frag) (c:Value) (q:Str):=PySem.W.codeIn K c q
abbrev kI (K:PySem.W.Frag) (f:Addr):=PySem.W.keepIn K (.ref f)
abbrev fI (K:PySem.W.Frag) (c:Addr) (x:Str):=PySem.W.findIn K (.ref c) x
abbrev Q4:=OV×OO×Bool×Bool
noncomputable def q4 (K:PySem.W.Frag) (x:Str) (f c:Addr):Q4:=(N K x,Lk K f,cI K (.ref c) x,kI K f)
noncomputable def v4 (x:Str) (st:Stmt) (f:Addr) (pm:Value) (c:Addr):Q4:=(R f,fo x x st pm c,true,true)
abbrev mD0:Value:=.str "law_slicewise_k76_the_fewest_parts" 423
abbrev mD2:Value:=.str "slicewise.fewest" 395
abbrev tX0:=((OV×OV)×(OV×(OV×OV)))×((OV×(OV×OV))×(OV×(OV×OV)))
abbrev tX1:=Q4×(Q4×Q4)
abbrev XX:Type:=((tX0×tX0)×((((Bool×Bool)×(Bool×(Bool×Bool)))×((Bool×(OV×OO))×(Bool×(Bool×Q4))))×(((Q4×Q4)×tX1)×(tX1×tX1))))
noncomputable def FF (K:PySem.W.Frag):XX:=(((((N K "isinstance",N K "list"),(N K "tuple",(N K "dict",N K "bool"))),((N K "len",(N K "range",N K "reversed")),(N K "sum",(N K "min",N K "zip")))),(((N K "ValueError",N K "SliceError"),(N K "TooGreat",(N K "NoRow",N K "NoBlock"))),((N K "NoCall",(N K "NoText",N K "NoPlace")),(N K "Unlike",(N K "NoFault",N K "Done"))))),((((EX.krB K [78] [42,109,128,147,166,54,66,78,90] 29,EX.xcB K 29 []),(CLO.tabB K 210 206,(CLO.tabB K 217 213,kI K 78))),((EX.tlB K 78,(N K "law",Lk K 240)),(cI K (.ref 239) "law",(kI K 240,q4 K "copied" 19 18)))),(((q4 K "is_wanted" 185 184,q4 K "came_of_parts" 178 177),(q4 K "left_of_round" 190 189,(q4 K "fewest" 173 172,q4 K "_law_cell_at" 197 196))),((q4 K "_law_part" 204 203,(q4 K "_law_coming" 211 210,q4 K "_law_wanting" 218 217)),(q4 K "_law_refused" 225 224,(q4 K "_law_round" 230 229,q4 K "_law_right" 235 234))))))
noncomputable def VV (w:World):XX:=(((((some none,some none),(some none,(some none,some none))),((some none,(some none,some none)),(some none,(some none,some none)))),(((some none,R 29),(R 42,(R 109,R 128))),((R 147,(R 166,R 54)),(R 66,(R 78,R 90))))),((((true,true),(true,(true,true))),((true,(R 240,fo "law" "law" (tY 26) mD0 239)),(true,(true,v4 "copied" (tY 1) 19 (.str "slicewise.copies" 187) 18)))),(((v4 "is_wanted" (tY 16) 185 mD2 184,v4 "came_of_parts" (tY 15) 178 mD2 177),(v4 "left_of_round" (tY 17) 190 mD2 189,(v4 "fewest" (tY 14) 173 mD2 172,v4 "_law_cell_at" (tY 19) 197 mD0 196))),((v4 "_law_part" (tY 20) 204 mD0 203,(v4 "_law_coming" (tY 21) 211 mD0 210,v4 "_law_wanting" (tY 22) 218 mD0 217)),(v4 "_law_refused" (tY 23) 225 mD0 224,(v4 "_law_round" (tY 24) 230 mD0 229,v4 "_law_right" (tY 25) 235 mD0 234))))))
theorem runC (w:World) (os:OsState):HE.lookC pE asE FF (HE.bootT (w).params) (w) 2663 os=some (VV (w)):=by
 rw [PySem.W.Fast.te3135357915001837337]
 kernel_rfl
theorem said:PySem.Challenge.rw_slicewise_k76_the_fewest_parts.wellSaid=true:=by kernel_rfl
end K76Z
namespace L2
open PySem PySem.Spec PyProof.Rows
section
theorem forIn_closed {env:Env} {f:Str×NameKind→List (Str×Addr)→Sem (ForInStep (List (Str×Addr)))}:∀ (l:List (Str×NameKind)) (cs:List (Str×Addr)),
  (∀ p∈l,∀ r,(p.2 = .free→∃ c,env.cells.lookup p.1=some c∧f p r=pure (.yield ((p.1,c) :: r)))∧(p.2≠.free→f p r=pure (.yield r))) →
  ∃ cl,forIn l cs f=pure cl∧(∀ y c,cl.lookup y=some c→cs.lookup y=some c∨env.cells.lookup y=some c)∧(∀ y,(cs.lookup y).isSome=true→(cl.lookup y).isSome=true) ∧
   ∀ p∈l,p.2 = .free→(cl.lookup p.1).isSome=true
 | [],cs,_=>⟨cs,by rw [List.forIn_nil],fun _ _ h=>.inl h,fun _ h=>h,fun _ h=>nomatch h⟩
 | p :: l,cs,hf=>by
   have hr:=fun q hq r=>hf q (List.mem_cons_of_mem _ hq) r
   by_cases hp:p.2 = .free
   · obtain ⟨c,hc,e⟩:=(hf p List.mem_cons_self cs).1 hp
     obtain ⟨cl,h1,h2,h3,h4⟩:=forIn_closed l ((p.1,c) :: cs) hr
     refine ⟨cl,?_,fun y d h=>?_,fun y h=>h3 y ?_,fun q hq hqf=>?_⟩
     · rw [List.forIn_cons,e]
       exact h1
     · rcases h2 y d h with z | z
       · rw [List.lookup_cons] at z
         cases hy:y == p.1 with
         | true =>
           rw [hy] at z
           have ey:=eq_of_beq hy
           cases z
           rw [ey]
           exact .inr hc
         | false=>rw [hy] at z; exact .inl z
       · exact .inr z
     · rw [List.lookup_cons]
       cases hy:y == p.1 with
       | true=>rfl
       | false=>exact h
     · rcases List.mem_cons.mp hq with z | z
       · subst z
         refine h3 _ ?_
         rw [List.lookup_cons,beq_self_eq_true]
         rfl
       · exact h4 q z hqf
   · have e:=(hf p List.mem_cons_self cs).2 hp
     obtain ⟨cl,h1,h2,h3,h4⟩:=forIn_closed l cs hr
     refine ⟨cl,?_,h2,h3,fun q hq hqf=>?_⟩
     · rw [List.forIn_cons,e]
       exact h1
     · rcases List.mem_cons.mp hq with z | z
       · subst z; exact absurd hqf hp
       · exact h4 q z hqf
theorem closureFor_pure {scope:Scope} {env:Env} (h:∀ p∈scope.names,p.2 = .free→∃ c,env.cells.lookup p.1=some c) :
  ∃ cl,closureFor scope env=pure cl∧(∀ y c,cl.lookup y=some c→env.cells.lookup y=some c)∧∀ p∈scope.names,p.2 = .free→∃ c,cl.lookup p.1=some c:=by
 have key:∃ cl,closureFor scope env=pure cl∧(∀ y c,cl.lookup y=some c→([]:List (Str×Addr)).lookup y=some c∨env.cells.lookup y=some c)∧(∀ y,(([]:List (Str×Addr)).lookup y).isSome=true→(cl.lookup y).isSome=true) ∧
   ∀ p∈scope.names,p.2 = .free→(cl.lookup p.1).isSome=true:=by
  have go:=@forIn_closed env (fun x r=>if x.2 == NameKind.free then (do let c ← cellOf env x.1; pure (ForInStep.yield ((x.1,c) :: r))) else pure (ForInStep.yield r)) scope.names [] ?_
  · obtain ⟨cl,h1,h2⟩:=go
    refine ⟨cl,?_,h2⟩
    first
     | (rw [h1]; rfl)
     | (rw [h1]; rfl)
     | exact congrArg (· >>= pure) h1
  · intro p hp r
    refine ⟨fun hf=>?_,fun hf=>?_⟩
    · obtain ⟨c,hc⟩:=h p hp hf
      refine ⟨c,hc,?_⟩
      have e1:(p.2 == NameKind.free)=true:=by rw [hf]; rfl
      have e2:cellOf env p.1=pure c:=by unfold cellOf; rw [hc]
      rw [e1,if_pos rfl,e2]
      rfl
    · have e1:(p.2 == NameKind.free)=false:=by simpa using hf
      rw [e1,if_neg (by decide)]
 obtain ⟨cl,h1,h2,h3,h4⟩:=key
 refine ⟨cl,h1,fun y c e=>?_,fun p hp hf=>Option.isSome_iff_exists.mp (h4 p hp hf)⟩
 rcases h2 y c e with z | z
 · rw [List.lookup_nil] at z; cases z
 · exact z
theorem relabel_look {scope:Scope} {env:Env} (y:Str):(relabel scope env).names.lookup y =
  (scope.names.lookup y).map fun k=>if (k == .free && env.scope.kind == .function && env.kindOf y == some .cell)=true then .cell else k:=by
 have key:∀ l:List (Str×NameKind),(l.map fun (n,k)=>if (k == NameKind.free && env.scope.kind == .function && env.kindOf n == some .cell) then (n,NameKind.cell) else (n,k)).lookup y =
   (l.lookup y).map fun k=>if (k == .free && env.scope.kind == .function && env.kindOf y == some .cell)=true then .cell else k:=by
  intro l
  induction l with
  | nil=>rfl
  | cons p l ih =>
    obtain ⟨n,k⟩:=p
    show List.lookup y ((if (k == NameKind.free && env.scope.kind == .function && env.kindOf n == some .cell)=true then (n,NameKind.cell) else (n,k)) :: _)=_
    by_cases hc:(k == NameKind.free && env.scope.kind == .function && env.kindOf n == some .cell)=true
    · rw [if_pos hc,List.lookup_cons,List.lookup_cons]
      cases hy:y == n with
      | true =>
        have ey:=eq_of_beq hy
        subst ey
        show some NameKind.cell=some (if _ then _ else _)
        rw [if_pos hc]
      | false=>exact ih
    · rw [if_neg hc,List.lookup_cons,List.lookup_cons]
      cases hy:y == n with
      | true =>
        have ey:=eq_of_beq hy
        subst ey
        show some k=some (if _ then _ else _)
        rw [if_neg hc]
      | false=>exact ih
 exact key scope.names
end
def compOk (N ts:List Str) (out sc:Scope):Bool :=
 (sc.kind == .function) && sc.names.all (fun p=>(p.2 != .cell) && (p.2 != .free || out.names.lookup p.1 == some .cell || out.names.lookup p.1 == some .free) && (p.2 != .local || sc.names.lookup p.1 == some .local))
   && N.all (fun y=>sc.names.lookup y != some .local) && ts.all (fun y=>sc.names.lookup y == some .local) && decide ((N ++ ts).Nodup)
structure CompSc (N ts:List Str) (out sc:Scope):Prop where
 kind:sc.kind = .function
 nocell:∀ p∈sc.names,p.2≠.cell
 fr:∀ p∈sc.names,p.2 = .free→out.names.lookup p.1=some .cell∨out.names.lookup p.1=some .free
 names:∀ p∈sc.names,p.2 = .local→sc.names.lookup p.1=some .local
 own:∀ y∈N,sc.names.lookup y≠some .local
 tgt:∀ y∈ts,sc.names.lookup y=some .local
 nd:(N ++ ts).Nodup
theorem compSc_of {N ts:List Str} {out sc:Scope} (h:compOk N ts out sc=true):CompSc N ts out sc:=by
 unfold compOk at h
 rw [Bool.and_eq_true,Bool.and_eq_true,Bool.and_eq_true,Bool.and_eq_true] at h
 obtain ⟨⟨⟨⟨h1,h2⟩,h3⟩,h4⟩,h5⟩:=h
 rw [List.all_eq_true] at h2 h3 h4
 refine ⟨eq_of_beq h1,fun p hp=>?_,fun p hp hf=>?_,fun p hp hl=>?_,fun y hy=>?_,fun y hy=>?_,of_decide_eq_true h5⟩
 · have:=h2 p hp
   rw [Bool.and_eq_true,Bool.and_eq_true] at this
   simpa using this.1.1
 · have:=h2 p hp
   rw [Bool.and_eq_true,Bool.and_eq_true] at this
   have q:=this.1.2
   rw [hf] at q
   simpa using q
 · have:=h2 p hp
   rw [Bool.and_eq_true,Bool.and_eq_true] at this
   have q:=this.2
   rw [hl] at q
   simpa using q
 · simpa using h3 y hy
 · simpa using h4 y hy
def compCx (X:Cx) (ts:List Str) (sc:Scope) (cl:List (Str×Addr)) (C:Addr) (fp:List Addr) (s:Shared) (H:Hp):Cx where
 prog:=X.prog
 w:=X.w
 K:=X.K
 mg:=X.mg
 base:=X.base
 A:=X.A
 N:=X.N ++ ts
 s₀:=s
 H₀:=H
 env:=compEnvC sc cl C X.env
 outer:=X.stack
 stack:=X.stack
 ex:=fp
 fn:=fun _=>false
 calm:=X.calm
 pn:=[]
 xe:=fun _ _=>False
section
variable {X:Cx} {pins:List (Addr×Obj)} {σ:St} {H:Hp} {s:Shared} {ts:List Str} {sc:Scope} {cl:List (Str×Addr)} {C D:Addr} {fp:List Addr}
theorem comp_kind (hS:CompSc X.N ts X.env.scope sc) {y:Str} (h:Vis (relabel sc X.env) y):sc.names.lookup y=some .local∨(sc.names.lookup y=some .free∧((relabel sc X.env).names.lookup y=some .cell∨(relabel sc X.env).names.lookup y=some .free)):=by
 have e:=relabel_look (scope:=sc) (env:=X.env) y
 cases hk:sc.names.lookup y with
 | none =>
   rw [hk] at e
   have e':=e
   rcases h with h | h | h <;> rw [e'] at h <;> cases h
 | some k =>
   have hm:=PySem.mem_of_lookup hk
   rw [hk] at e
   cases k with
   | «local»=>exact .inl rfl
   | cell=>exact absurd rfl (hS.nocell _ hm)
   | free =>
     refine .inr ⟨rfl,?_⟩
     rw [e,Option.map_some]
     by_cases hc:(NameKind.free == .free && X.env.scope.kind == .function && X.env.kindOf y == some .cell)=true
     · rw [if_pos hc]; exact .inl rfl
     · rw [if_neg hc]; exact .inr rfl
   | globalExplicit =>
     have e':=e
     rcases h with h | h | h <;> rw [e'] at h <;> cases h
   | globalImplicit =>
     have e':=e
     rcases h with h | h | h <;> rw [e'] at h <;> cases h
theorem comp_fp (I:Inv X pins σ H s) (hf:∀ b∈fp,FpOk X pins H b):∀ b∈fp,b∉frs X.stack:=fun b hb z=>by
 obtain ⟨_,f1,f2,_⟩:=hf b hb
 rcases List.mem_cons.mp (I.stkSub b z) with e | e
 · exact f1 e
 · exact f2 e
theorem comp_in (I:Inv X pins σ H s) (hf:∀ b∈fp,FpOk X pins H b) (hfo:∀ b∈fp,∃ o,s.heap.get? b=some o) (hS:CompSc X.N ts X.env.scope sc)
  (c1:∀ y c,cl.lookup y=some c→X.env.cells.lookup y=some c) (c2:∀ p∈sc.names,p.2 = .free→∃ c,cl.lookup p.1=some c)
  (hC:s.heap.objs.size≤C) (hD:s.heap.objs.size≤D) (hDC:D≠C) {h1:Heap} {m:Str→Option Value} {n:Nat} {t:Nat} (k:∀ b o,s.heap.get? b=some o→h1.get? b=some o) (hn:h1.Ns C m)
  (hd:h1.get? D=some { cls:=.type "list",data:=.seq ([]:List Value).toArray n }) :
  Inv (compCx X ts sc cl C fp s H) [] (σ ++ ts.map fun _=>none) (upd H D (.lst [])) { s with heap:=h1,toks:=t }:=by
 have sz:=I.sz
 have fpne:∀ b∈fp,b < s.heap.objs.size:=fun b hb=>by obtain ⟨o,e⟩:=hfo b hb; exact Heap.lt_size e
 have cne:∀ y c,cl.lookup y=some c→c < s.heap.objs.size:=fun y c e=>by obtain ⟨v,q⟩:=I.cell y c (c1 y c e); exact q.lt
 have ok:(compCx X ts sc cl C fp s H).Ok:=by
  refine ⟨I.ok.mod,hS.kind,I.ok.glob,I.ok.blt,hC,fun x y c e1 e2=>I.ok.inj x y c (c1 x c e1) (c1 y c e2),fun x hx=>?_,fun x c hx=>absurd hx (by simp [compCx]),I.ok.hd,I.ok.frames,.inl rfl,fun b hb=>?_,fun b o e=>I.bs b o e,
   Nat.le_trans I.ok.bsz sz,fun b o e hb=>?_,comp_fp I hf,I.stack,fun b hb=>I.stkFree b hb⟩
  · have hv:Vis (relabel sc X.env) x:=by
     rcases hx with hx | hx
     · exact .inr (.inl hx)
     · exact .inr (.inr hx)
    rcases comp_kind hS hv with z | ⟨z,_⟩
    · have e:=relabel_look (scope:=sc) (env:=X.env) x
      rw [z] at e
      have e':=e
      have hx':(relabel sc X.env).names.lookup x=some .cell∨(relabel sc X.env).names.lookup x=some .free:=hx
      rw [e'] at hx'
      rcases hx' with q | q <;> cases q
    · exact c2 _ (PySem.mem_of_lookup z) rfl
  · exact ⟨fun e=>absurd (Nat.lt_of_lt_of_le (fpne b hb) hC) (by have e':=e; rw [e']; exact Nat.lt_irrefl _),fun x c e z=>(hf b hb).2.2.2.2.1 x c (c1 x c e) z⟩
  · rcases (hf b hb).2.2.2.1 with z | z
    · exact I.ok.noex b o e z
    · exact absurd (Nat.lt_of_lt_of_le (Heap.lt_size e) (Nat.le_trans I.ok.bsz z)) (Nat.lt_irrefl _)
 have hnD:=I.hok.fresh hD
 refine ⟨ok,rfl,I.bare,Un.laid k hD hnD,⟨m,hn,fun i x v e1 e2 e3=>?_⟩,fun x c e=>?_,?_,fun x c e=>?_,fun p hp=>absurd (show p∈([]:List (Addr×Obj)) from hp) (by simp),I.hok.laid k hD ⟨Nat.zero_le _,[],n,.nil,hd⟩,?_⟩
 · have hi:i < σ.length:=by
    by_cases hi:i < σ.length
    · exact hi
    · rw [List.getElem?_append_right (by lia),List.getElem?_map] at e2
      cases q:ts[i - σ.length]? with
      | none=>rw [q] at e2; cases e2
      | some a=>rw [q] at e2; cases e2
   have e2':σ[i]?=some (some v):=by rw [List.getElem?_append_left hi] at e2; exact e2
   have e1':X.N[i]?=some x:=by
    have e1'':(X.N ++ ts)[i]?=some x:=e1
    rw [List.getElem?_append_left (by rw [← I.len]; exact hi)] at e1''
    exact e1''
   rcases comp_kind hS e3 with z | ⟨z,zr⟩
   · exact absurd z (hS.own x (List.mem_of_getElem? e1'))
   · have hm:=PySem.mem_of_lookup z
     have ho:=hS.fr _ hm rfl
     obtain ⟨m0,_,hl⟩:=I.loc
     obtain ⟨u,r,l⟩:=hl i x v e1' e2' (.inr ho)
     obtain ⟨c',hc'⟩:=c2 _ hm rfl
     rcases l with ⟨l,_⟩ | ⟨_,c,hc,z2⟩
     · have l':X.env.scope.names.lookup x=some .local:=l
       rw [l'] at ho
       rcases ho with q | q <;> cases q
     · have ec:=c1 x c' hc'
       rw [hc] at ec
       cases ec
       exact ⟨u,r,.inr ⟨zr,_,hc',z2.keeps k⟩⟩
 · obtain ⟨v,z⟩:=I.cell x c (c1 x c e)
   exact ⟨v,z.keeps k⟩
 · show upd H D (.lst []) C=none
   rw [upd_ne (Ne.symm hDC)]
   exact I.hok.fresh hC
 · rw [upd_ne (Nat.ne_of_lt (Nat.lt_of_lt_of_le (cne x c e) hD))]
   exact I.freeC x c (c1 x c e)
 · show (σ ++ ts.map fun _=>none).length=(X.N ++ ts).length
   rw [List.length_append,List.length_append,List.length_map,I.len]
theorem comp_out (I:Inv X pins σ H s) (hf:∀ b∈fp,FpOk X pins H b) {pins':List (Addr×Obj)} {σ':St} {H':Hp} {s':Shared} (J:Inv (compCx X ts sc cl C fp s H) pins' σ' H' s'):Inv X pins σ H' s' :=
 I.call' J.os J.base J.hok J.bare fun b hb=>by
  obtain ⟨_,f1,_,f3,f4,f5⟩:=hf b hb
  exact ⟨f3,f1,f4,f5⟩
end
end L2
namespace L2
open PySem PySem.Spec PyProof.Rows
section
variable {prog:Program} {w:World} {A:Around} {R:Result→Shared→Prop} {s:Shared}
theorem codeAny_compLoop_go {elt target iter:Expr} {ifs:List Expr} {scope:Scope} {pos:Pos} {it acc:Value} {env:Env} (I:Nat→Shared→Prop)
  (turn:∀ n s,I n s→wpAny (model prog w) A (pyNext it) (fun r s₁=>match r with
    | none=>R (.ok .next) s₁
    | some v=>wpAny (model prog w) A (letOwnedTupleGo target it v) (fun _ s₁'=>wpAny (model prog w) A (assign target env v) (fun _ s₂ =>
       wpAny (model prog w) A (forIn ifs true fun c r=>if r=true then do let ok ← isTrue c env (eval c env); pure (ForInStep.yield ok) else pure (ForInStep.yield r)) (fun ok s₃ =>
        if ok=true then wpAny (model prog w) A (eval elt env) (fun x s₄ =>
         wpAny (model prog w) A (call (.builtin "list.append") [acc,x]) (fun _ s₅=>∃ m,m < n∧I m s₅) (notedBy (model prog w) A env fun e s'=>R (.error e) s') s₄) (notedBy (model prog w) A env fun e s'=>R (.error e) s') s₃
        else ∃ m,m < n∧I m s₃) (notedBy (model prog w) A env fun e s'=>R (.error e) s') s₂) (notedBy (model prog w) A env fun e s'=>R (.error e) s') s₁')
       (notedBy (model prog w) A env fun e s'=>R (.error e) s') s₁) (notedBy (model prog w) A env fun e s'=>R (.error e) s') s)
  (n:Nat) (h:I n s):codeAny (model prog w) A (.compLoop (.ListComp elt [⟨target,iter,ifs,0⟩] scope pos) 0 it acc env) R s:=by
 refine codeAny_loop rfl I (fun n s hI=>wpAny_noted (wpAny_bind (wpAny_standAt (wpAny_bind (wpAny_mono (turn n s hI) (fun r s₁ h₁=>?_) fun _ _ h'=>h'))))) n h
 cases r with
 | none=>exact wpAny_pure h₁
 | some v =>
   refine wpAny_bind (wpAny_mono h₁ (fun _ s₁' h₁'=>wpAny_bind (wpAny_mono h₁' (fun _ s₂ h₂=>wpAny_bind (wpAny_mono h₂ (fun ok s₃ h₃=>?_) fun _ _ h'=>h')) fun _ _ h'=>h')) fun _ _ h'=>h')
   cases ok with
   | false=>exact wpAny_pure ⟨rfl,h₃⟩
   | true =>
     exact wpAny_bind (wpAny_bind (wpAny_mono h₃ (fun x s₄ h₄=>wpAny_bind (wpAny_mono h₄ (fun _ s₅ h₅=>wpAny_pure (wpAny_pure ⟨rfl,h₅⟩)) fun _ _ h'=>h')) fun _ _ h'=>h'))
end
def PTs (X:Cx) (ifs:List Expr) (t:TT):Prop :=
 ∀ (pins:List (Addr×Obj)) (s:Shared) (σ:St) (H:Hp) (Q:Bool→Hp→Prop),Inv X pins σ H s→t σ H Q →
  wpAny (model X.prog X.w) X.A (forIn ifs true fun c r=>if r=true then do let ok ← isTrue c X.env (eval c X.env); pure (ForInStep.yield ok) else pure (ForInStep.yield r)) (TP X pins σ Q) X.xe s
def tYes:TT:=fun _ H Q=>Q true H
theorem pts_nil {X:Cx}:PTs X [] tYes:=fun _ _ _ H _ I h=>wpAny_tests_nil ⟨H,I,h⟩
theorem pts_one {X:Cx} {c:Expr} {t:TT} (h:PT X c t):PTs X [c] t:=fun pins s σ H Q I hw=>wpAny_tests_one (h pins s σ H Q I hw)
def CompW (J:It) (g:TG) (tt:TT) (te:TE) (n:Nat) (σ:St) (D:Addr) (Q:Hp→Prop) (H1:Hp):Prop :=
 ∃ W:Nat→Nat→List V→Hp→Prop,(∃ m,W 0 m [] (upd H1 D (.lst [])))∧∀ i m acc H2,W i m acc H2→H2 D=some (.lst acc) ∧
  ((J.stop i H2∧Q H2)∨(J.go i H2∧acc.length < sizeLine∧∀ x H3,J.yld i H2 x H3→g x (σ ++ List.replicate n none) H3 fun σ4 H4=>(σ4.length=σ.length+n∧∀ (i:Nat) v,σ[i]?=some (some v)→σ4[i]?=some (some v)) ∧
    tt σ4 H4 fun b H5=>if b=true then te σ4 H5 fun y H6=>H6 D=some (.lst acc)∧∃ m',m' < m∧W (i+1) m' (acc ++ [y]) (upd H6 D (.lst (acc ++ [y]))) else ∃ m',m' < m∧W (i+1) m' acc H5))
section
variable {X:Cx} {pins:List (Addr×Obj)} {σ:St} {H:Hp} {s:Shared} {ts:List Str} {sc:Scope} {cl:List (Str×Addr)} {fp:List Addr}
theorem weak_none {Y:Cx} {pl:List (Addr×Obj)} {σ4:St} {H':Hp} {s':Shared} {n:Nat} (I:Inv Y pl σ4 H' s') (hl:σ4.length=σ.length+n) (hs:∀ (i:Nat) v,σ[i]?=some (some v)→σ4[i]?=some (some v)) :
  Inv Y pl (σ ++ List.replicate n none) H' s':=by
 refine I.weak (by rw [List.length_append,List.length_replicate,hl]) fun i v e=>?_
 by_cases hi:i < σ.length
 · rw [List.getElem?_append_left hi] at e
   exact hs i v e
 · rw [List.getElem?_append_right (by lia),List.getElem?_replicate] at e
   split at e <;> cases e
theorem comp_run {elt iter tg:Expr} {ifs:List Expr} {pos:Pos} {it:Addr} {tn:Nat→Heap→Prop} {J:It} {g:TG} {tt:TT} {te:TE} {Q:Hp→Prop} {RR:Value→Addr→Result→Shared→Prop} {E:Value→Shared→Prop}
  (hc:X.calm=true) (I:Inv X pins σ H s) (T:Turn X.prog X.w X.K tg J fp it tn) (st:tn 0 s.heap) (hf:∀ b∈fp,FpOk X pins H b) (hS:CompSc X.N ts X.env.scope sc)
  (c1:∀ y c,cl.lookup y=some c→X.env.cells.lookup y=some c) (c2:∀ p∈sc.names,p.2 = .free→∃ c,cl.lookup p.1=some c)
  (hg:∀ C,PG (compCx X ts sc cl C fp s H) tg g) (ht:∀ C,PTs (compCx X ts sc cl C fp s H) ifs tt) (he:∀ C,PE (compCx X ts sc cl C fp s H) elt te)
  (hw:CompW J g tt te ts.length σ s.heap.objs.size Q H)
  (fin:∀ (C:Addr) (H':Hp) (s':Shared) (σ':St),s.heap.objs.size≤C→Inv (compCx X ts sc cl C fp s H) [] σ' H' s'→Q H'→RR (.ref s.heap.objs.size) C (.ok .next) s') :
  wpAny (model X.prog X.w) X.A (newList []) (fun acc s₃=>wpAny (model X.prog X.w) X.A (newFunctionEnv sc X.env.globals cl [] X.env.qual none .none (some X.env)) (fun cenv s₄ =>
   codeAny (model X.prog X.w) X.A (.compStart (.ListComp elt [⟨tg,iter,ifs,0⟩] sc pos) 0 (.ref it) acc { cenv with scope:=relabel sc X.env }) (RR acc cenv.locals) s₄) E s₃) E s:=by
 obtain ⟨W,⟨m0,w0⟩,turn⟩:=hw
 have obj0:=T.obj 0 _ st
 have hfo:∀ b∈fp,∃ o,s.heap.get? b=some o:=fun b hb=>let ⟨o,e,_⟩:=obj0 b hb; ⟨o,e⟩
 refine wpAny_newObj_type (wpAny_newFunctionEnv hS.nocell (by intro y hy; simp at hy) (fun h₁ hns₁ hsb₁=>?_) hS.kind)
 generalize hH2:s.heap.push { cls:=.type "list",dict:=none,data:=.seq ([]:List Value).toArray }=H2 at hns₁ hsb₁ ⊢
 have hC:H2.objs.size=s.heap.objs.size+1:=by rw [← hH2,Heap.size_push]
 have hDC:s.heap.objs.size≠H2.objs.size:=by rw [hC]; exact Nat.ne_of_lt (Nat.lt_succ_self _)
 have hCle:s.heap.objs.size≤H2.objs.size:=by rw [hC]; exact Nat.le_succ _
 have below:∀ b,b < s.heap.objs.size→b≠H2.objs.size∧b≠s.heap.objs.size:=fun b hb=>⟨by rw [hC]; exact Nat.ne_of_lt (Nat.lt_succ_of_lt hb),Nat.ne_of_lt hb⟩
 have old:=fun b o e=>hsb₁.extBut b o (below b (Heap.lt_size e)).1 (Heap.get?_push_of_some _ (hH2▸Heap.get?_push_of_some _ e))
 have hacc:=hsb₁.extBut _ _ hDC (Heap.get?_push_of_some _ (hH2▸Heap.get?_push_size _ rfl))
 have hst₁:=T.keep _ _ _ st fun b hb o e=>old b o e
 have fps:∀ {H':Hp},(∀ b∈fp,H' b=none)→∀ b∈fp,FpOk (compCx X ts sc cl H2.objs.size fp s H) [] H' b:=fun {H'} hn b hb=>by
  obtain ⟨o,e⟩:=hfo b hb
  refine ⟨hn b hb,fun z=>?_,comp_fp I hf b hb,.inl hb,fun x c e z=>(hf b hb).2.2.2.2.1 x c (c1 x c e) z,fun p hp=>absurd (show p∈([]:List (Addr×Obj)) from hp) (by simp)⟩
  have z':=z
  exact (below b (Heap.lt_size e)).1 z'
 have fp0:∀ b∈fp,(upd H s.heap.objs.size (.lst [])) b=none:=fun b hb=>by
  obtain ⟨o,e⟩:=hfo b hb
  rw [upd_ne (Nat.ne_of_lt (Heap.lt_size e))]
  exact (hf b hb).1
 have eN:(ts.map fun _=>(none:Option V))=List.replicate ts.length none:=List.map_const'
 have loop:∀ s₃:Shared,s₃={ s with heap:=h₁,toks:=s.toks+([]:List (Str×Value)).length } →
   codeAny (model X.prog X.w) X.A (.compLoop (.ListComp elt [⟨tg,iter,ifs,0⟩] sc pos) 0 (.ref it) (.ref s.heap.objs.size) (compEnvC sc cl H2.objs.size X.env)) (RR (.ref s.heap.objs.size) H2.objs.size) s₃:=by
  rintro s₃ rfl
  have J0:=comp_in (t:=s.toks+([]:List (Str×Value)).length) I hf hfo hS c1 c2 hCle (Nat.le_refl _) hDC old hns₁ hacc
  rw [eN] at J0
  refine codeAny_compLoop_go (fun n s'=>∃ i acc H',Inv (compCx X ts sc cl H2.objs.size fp s H) [] (σ ++ List.replicate ts.length none) H' s'∧tn i s'.heap∧(∀ b∈fp,H' b=none)∧W i n acc H') ?_ m0 ⟨0,[],_,J0,hst₁,fp0,w0⟩
  rintro n s3 ⟨i,acc,H3,J3,st3,fr3,w3⟩
  obtain ⟨hD3,alt⟩:=turn i n acc H3 w3
  rcases alt with ⟨stop,q⟩ | ⟨go,hz,step⟩
  · refine thn (T.done (compCx X ts sc cl H2.objs.size fp s H) rfl rfl rfl hc i [] s3 _ H3 _ J3 (fps fr3) st3 stop) fun r s4 ⟨hr,J4⟩=>?_
    subst hr
    exact fin _ H3 s4 _ hCle J4 q
  · refine thn (T.item (compCx X ts sc cl H2.objs.size fp s H) rfl rfl rfl hc i [] s3 _ H3 _ J3 (fps fr3) st3 go) fun r s4 ⟨u,hr,h4⟩=>?_
    subst hr
    refine thn h4 fun _ s5 ⟨x,H5,J5,r5,y5,st5,fr5⟩=>?_
    have J5':=J5.pinned (fps fr5) (T.obj _ _ st5)
    have again:∀ {σ7:St} {H7:Hp} {s7:Shared},Inv (compCx X ts sc cl H2.objs.size fp s H) ([] ++ pinsAt fp s5.heap) σ7 H7 s7→(σ7.length=σ.length+ts.length∧∀ i v,σ[i]?=some (some v)→σ7[i]?=some (some v))→∀ acc' m',W (i+1) m' acc' H7→m' < n →
      ∃ m,m < n∧∃ i acc H',Inv (compCx X ts sc cl H2.objs.size fp s H) [] (σ ++ List.replicate ts.length none) H' s7∧tn i s7.heap∧(∀ b∈fp,H' b=none)∧W i m acc H':=fun {σ7 H7 s7} I7 hσ acc' m' w7 hm=>by
     refine ⟨m',hm,i+1,acc',H7,weak_none I7.unpinned hσ.1 hσ.2,T.keep _ _ _ st5 fun b hb o e=>(I7.pin (b,o) (List.mem_append_right _ (List.mem_append_right _ (mem_pinsAt hb e)))).1,fun b hb=>?_,w7⟩
     obtain ⟨o,e,d⟩:=T.obj _ _ st5 b hb
     exact (I7.pin (b,o) (List.mem_append_right _ (List.mem_append_right _ (mem_pinsAt hb e)))).2.1
    refine wpAny_mono (hg H2.objs.size _ s5 _ H5 x u _ J5' r5 (step x H5 y5)) (fun _ s6 ⟨σ6,H6,J6,hσ,q6⟩=>wpAny_mono (ht H2.objs.size _ s6 σ6 H6 _ J6 q6) (fun b s7 ⟨H7,J7,q7⟩=>?_) fun _ _ z=>False.elim z) fun _ _ z=>False.elim z
    cases b with
    | false =>
      obtain ⟨m',hm,w7⟩:=q7
      exact again J7 hσ acc m' w7 hm
    | true =>
      refine wpAny_mono (he H2.objs.size _ s7 σ6 H7 _ J7 q7) (fun y s8 ⟨yv,H8,J8,ry,hD8,m',hm,w8⟩=>wpAny_mono (mt_append (X:=compCx X ts sc cl H2.objs.size fp s H) _ s8 σ6 H8 (.ref s.heap.objs.size) [yv] (.ref s.heap.objs.size) [y] (fun v H9=>v = .non∧H9=upd H8 s.heap.objs.size (.lst (acc ++ [yv]))) J8 rfl (.cons ry .nil) ⟨_,acc,yv,rfl,rfl,hD8,hz,rfl,rfl⟩) (fun v9 s9 ⟨v,H9,J9,_,_,e9⟩=>?_) fun _ _ z=>False.elim z) fun _ _ z=>False.elim z
      subst e9
      exact again J9 hσ (acc ++ [yv]) m' w8 hm
 exact codeAny_compStart_list (loop _ rfl) (T.self _ 0 _ _ _ hst₁ (loop _ rfl))
def tComp (n:Nat) (wi:TI) (g:TG) (tt:TT) (te:TE):TE:=fun σ H Q=>wi σ H fun J H1=>∀ D,H1 D=none→CompW J g tt te n σ D (Q (.ref D)) H1
theorem comp_has (I:Inv X pins σ H s) (hS:CompSc X.N ts X.env.scope sc):∀ p∈sc.names,p.2 = .free→∃ c,X.env.cells.lookup p.1=some c:=fun p hp hf=>by
 rcases hS.fr p hp hf with z | z
 · exact I.ok.has p.1 (.inl z)
 · exact I.ok.has p.1 (.inr z)
theorem pe_comp {elt iter tg:Expr} {ifs:List Expr} {pos:Pos} {wi:TI} {g:TG} {tt:TT} {te:TE} (hc:X.calm=true) (hS:compOk X.N ts X.env.scope sc=true) (hi:PI X tg iter wi)
  (hg:∀ cl C fp s H,PG (compCx X ts sc cl C fp s H) tg g) (ht:∀ cl C fp s H,PTs (compCx X ts sc cl C fp s H) ifs tt) (he:∀ cl C fp s H,PE (compCx X ts sc cl C fp s H) elt te)
  (hs:∀ x,foldedSetIterable iter X.env x=pure x:=by intro _; rfl):PE X (.ListComp elt [⟨tg,iter,ifs,0⟩] sc pos) (tComp ts.length wi g tt te):=by
 intro pins s σ H Q I h
 have S:=compSc_of hS
 obtain ⟨cl,hcl,c1,c2⟩:=closureFor_pure (comp_has I S)
 refine wpAny_comprehension_free rfl hs hcl S.kind S.names (thn (hi pins s σ H _ I h) fun v s1 h1=>thn h1 fun itv s2 h2=>?_)
 obtain ⟨it,fp,tn,J,H2,e,I2,T,st2,f2,q2⟩:=h2
 subst e
 refine comp_run hc I2 T st2 f2 S c1 c2 (fun C=>hg cl C fp s2 H2) (fun C=>ht cl C fp s2 H2) (fun C=>he cl C fp s2 H2) (q2 _ (I2.hok.fresh (Nat.le_refl _))) ?_
 intro C H' s' σ' hC J' q'
 obtain ⟨m,hn,_⟩:=J'.loc
 refine ⟨m,hn,fun h' sb=>?_⟩
 have I':=comp_out I2 f2 J'
 have fk:=I2.fpOk hC J'.free
 obtain ⟨f0,f1,_,f3,f4,f5⟩:=fk
 exact ⟨.ref _,H',I'.turned (fun b o hb e=>(sb.2 b hb).trans e) f0 f1 f3 f4 f5,rfl,q'⟩
theorem ps_comp {i:Nat} {y:Str} {py:Pos} {spos:Pos} {elt iter tg:Expr} {ifs:List Expr} {pos:Pos} {wi:TI} {g:TG} {tt:TT} {te:TE} (hN:X.N.Nodup) (hy:X.N[i]?=some y) (hx:Loc X.env.scope y) (hc:X.calm=true) (hS:compOk X.N ts X.env.scope sc=true) (hi:PI X tg iter wi)
  (hg:∀ cl C fp s H,PG (compCx X ts sc cl C fp s H) tg g) (ht:∀ cl C fp s H,PTs (compCx X ts sc cl C fp s H) ifs tt) (he:∀ cl C fp s H,PE (compCx X ts sc cl C fp s H) elt te)
  (hsw:swapsWith (.ListComp elt [⟨tg,iter,ifs,0⟩] sc pos) (some (.Name y py)) spos.line X.env=pure true:=by rfl)
  (hs:∀ x,foldedSetIterable iter X.env x=pure x:=by intro _; rfl) (hf:X.fn y=true∨X.env.scope.names.lookup y=some .local:=by first | exact .inl rfl | exact .inr rfl | assumption) :
  PS X (.Assign [.Name y py] (.ListComp elt [⟨tg,iter,ifs,0⟩] sc pos) spos) (tAsg (tComp ts.length wi g tt te) (gName i)):=by
 intro pins s σ H D I h
 have S:=compSc_of hS
 obtain ⟨cl,hcl,c1,c2⟩:=closureFor_pure (comp_has I S)
 rw [exec_Assign_Name_used _ _ _ _ hsw]
 refine wpAny_bind (wpAny_standAt (wpAny_bind (wpAny_bind (wpAny_mono (wpAny_comprehension_free rfl hs hcl S.kind S.names (thn (hi pins s σ H _ I h) fun v s1 h1=>thn h1 fun itv s2 h2=>?_)) (fun _ s' hq=>wpAny_pure (wpAny_pure hq)) fun _ _ e=>e))))
 obtain ⟨it,fp,tn,J,H2,e,I2,T,st2,f2,q2⟩:=h2
 subst e
 refine comp_run hc I2 T st2 f2 S c1 c2 (fun C=>hg cl C fp s2 H2) (fun C=>ht cl C fp s2 H2) (fun C=>he cl C fp s2 H2) (q2 _ (I2.hok.fresh (Nat.le_refl _))) ?_
 intro C H' s' σ' hC J' q'
 obtain ⟨m,hn,_⟩:=J'.loc
 have I':=comp_out I2 f2 J'
 have fk:=I2.fpOk hC J'.free
 obtain ⟨f0,f1,_,f3,f4,f5⟩:=fk
 refine wpAny_assign_Name (store_ok2 (v:=.ref s2.heap.objs.size) I' hN hy hx rfl (fun s3 I3 ⟨a,sb,ha⟩=>?_) hf)
 have hCa:C≠a:=by
  rcases ha with z | z
  · rw [z]; exact f1
  · exact fun e=>f4 y a z e.symm
 exact ⟨m,hn.sameBut sb hCa,fun h' sb'=>⟨_,H',I3.turned (fun b o hb e=>(sb'.2 b hb).trans e) f0 f1 f3 f4 f5,q'⟩⟩
end
end L2
namespace L2
open PySem PySem.Spec PyProof.Rows
def Its (x:Str):It:=⟨fun i _=>i < x.cps.size,fun i H v H'=>H'=H∧∃ c,x.cps[i]?=some c∧v = .str ⟨#[c]⟩,fun i _=>x.cps.size≤i⟩
theorem strIter_cases (x:Str):(strIterType x="str_ascii_iterator")∨(strIterType x="str_iterator"):=by
 unfold strIterType
 cases x.cps.all (· < 128)
 · exact .inr rfl
 · exact .inl rfl
theorem turn_str {P:Program} {w:World} {K:PySem.W.Frag} {tg:Expr} (x:Str) (t:Tok) (it:Addr):Turn P w K tg (Its x) [it] it (fun i h=>h.IsStrIter it (strIterType x) x t i) where
 mem:=by simp
 obj:=fun i h st b hb=>by
  have e:b=it:=by simpa using hb
  subst e
  obtain ⟨o,e,c,d⟩:=st
  exact ⟨o,e,fun v z=>by rw [d] at z; cases z⟩
 keep:=fun i h h' st k=>by
  obtain ⟨o,e,c,d⟩:=st
  exact ⟨o,k it (by simp) o e,c,d⟩
 item:=by
  intro X hP hw hK hc i pins s σ H E I hf st hg
  subst hP hw hK
  obtain ⟨f0,f1,f2,f3,f4,f5⟩:=hf it (by simp)
  have hi:i < x.cps.size:=hg
  have hx:x.cps[i]?=some x.cps[i]:=by simp [hi]
  have fin:∀ h',h'.IsStrIter it (strIterType x) x t (i+1)→Heap.SameBut it s.heap h'→∃ u,(some (Value.str ⟨#[x.cps[i]]⟩ s.toks):Option Value)=some u ∧
    wpAny (model X.prog X.w) X.A (letOwnedTupleGo tg (.ref it) u) (fun _ s2=>∃ y H',Inv X pins σ H' s2∧RelV y u∧(Its x).yld i H y H'∧Heap.IsStrIter s2.heap it (strIterType x) x t (i+1)∧∀ b∈[it],H' b=none) E { s with heap:=h',toks:=s.toks+1 }:=fun h' st' sb=>by
   have I1:=I.turned (t':=s.toks+1) (fun b o hb e=>(sb.2 b hb).trans e) f0 f1 f3 f4 f5
   obtain ⟨o,e,c,d⟩:=id st'
   refine ⟨_,rfl,go_of e c d ?_ ⟨.str ⟨#[x.cps[i]]⟩,H,I1,⟨_,rfl⟩,⟨rfl,_,hx,rfl⟩,st',fun b hb=>(hf b hb).1⟩⟩
   rcases strIter_cases x with z | z <;> rw [z] <;> decide
  rcases strIter_cases x with z | z
  · rw [z] at st fin
    refine wpAny_pyNext_ascii_item st hx fun h' st' sb=>?_
    have:=fin h' st' sb
    simpa [z] using this
  · rw [z] at st fin
    refine wpAny_pyNext_wide_item st hx fun h' st' sb=>?_
    have:=fin h' st' sb
    simpa [z] using this
 done:=by
  intro X hP hw hK hc i pins s σ H E I hf st hg
  subst hP hw hK
  obtain ⟨f0,f1,f2,f3,f4,f5⟩:=hf it (by simp)
  have hi:x.cps.size≤i:=hg
  have hx:x.cps[i]?=none:=by simp [hi]
  rcases strIter_cases x with z | z
  · rw [z] at st
    exact wpAny_pyNext_ascii_end (I.ok.hd hc) st hx fun h' eb=>⟨rfl,I.turned (fun b o hb e=>eb b o hb e) f0 f1 f3 f4 f5⟩
  · rw [z] at st
    exact wpAny_pyNext_wide_end (I.ok.hd hc) st hx fun h' eb=>⟨rfl,I.turned (fun b o hb e=>eb b o hb e) f0 f1 f3 f4 f5⟩
 self:=fun A i s Q E st h=>by
  rcases strIter_cases x with z | z
  · rw [z] at st; exact wpAny_pyIter_striter_ascii st h
  · rw [z] at st; exact wpAny_pyIter_striter_wide st h
section
variable {X:Cx} {tg:Expr}
def rSlS:V→Option Int→Option Int→Hp→VK→Prop:=fun x lo hi H Q=>∃ z,x = .str z∧z.length≤sizeLine∧Q (.str (Txt.slice z lo hi)) H
theorem sl_str:SlR X rSlS:=by
 intro pins s σ H x v vl vu lo hi sl Q I rx hs pl pu h
 obtain ⟨z,rfl,hz,q⟩:=h
 obtain ⟨t,rfl⟩:=rx
 obtain ⟨o,e,c,d⟩:=hs
 refine ⟨"str",_,slot_str_getitem.lookup,typeIs_str _ _ _,?_⟩
 cases pl with
 | none =>
   cases pu with
   | none=>exact wpAny_getItem_str_slice (l:=none) (u:=none) (st:=none) ⟨o,e,c,d⟩ rfl (post_val_or_str ⟨Nat.le_trans (Txt.slice_le z _ _) hz,fun t' k=>⟨.str _,H,I.tok _,⟨_,rfl⟩,q⟩⟩)
   | int j tj=>exact wpAny_getItem_str_slice (l:=none) (u:=some (j,tj)) (st:=none) ⟨o,e,c,d⟩ rfl (post_val_or_str ⟨Nat.le_trans (Txt.slice_le z _ _) hz,fun t' k=>⟨.str _,H,I.tok _,⟨_,rfl⟩,q⟩⟩)
 | int i ti =>
   cases pu with
   | none=>exact wpAny_getItem_str_slice (l:=some (i,ti)) (u:=none) (st:=none) ⟨o,e,c,d⟩ rfl (post_val_or_str ⟨Nat.le_trans (Txt.slice_le z _ _) hz,fun t' k=>⟨.str _,H,I.tok _,⟨_,rfl⟩,q⟩⟩)
   | int j tj=>exact wpAny_getItem_str_slice (l:=some (i,ti)) (u:=some (j,tj)) (st:=none) ⟨o,e,c,d⟩ rfl (post_val_or_str ⟨Nat.le_trans (Txt.slice_le z _ _) hz,fun t' k=>⟨.str _,H,I.tok _,⟨_,rfl⟩,q⟩⟩)
end
end L2
namespace L2
open PySem PySem.Spec PyProof.Rows
theorem same_upd {H:Hp} {D:Addr} {o:HO} (h:H D=none):Same H (upd H D o):=fun b u e=>by rw [upd_ne (ne_of_none e h)]; exact e
end L2
namespace L2
open PySem PySem.Spec PyProof.Rows
section
variable {X:Cx} {pins:List (Addr×Obj)} {σ:St} {H H':Hp} {s:Shared} {h':Heap}
theorem Inv.grown {t':Nat} {ch:List Addr} {t:Addr} {o:HO} (I:Inv X pins σ H s) (k:∀ b u,b∉ch→s.heap.get? b=some u→h'.get? b=some u) (hf:∀ b∈ch,FpOk X pins H b) (ht:s.heap.objs.size≤t)
  (new:ObjOk X.prog X.w (upd H t o) h' t o):Inv X pins σ (upd H t o) { s with heap:=h',toks:=t' }:=by
 have hn:=I.hok.fresh ht
 have nch:∀ b u,H b=some u→b∉ch:=fun b u e z=>by rw [(hf b z).1] at e; cases e
 refine I.step (fun b hb=>?_) (fun b u _ _ hc e _=>k b u hc e) (fun b u _ _ hc e _=>⟨u.slots,k b u hc e⟩) (fun b u _ e n=>?_) (fun b u hc e=>⟨u,k b u hc e⟩)
  (fun b xs e=>?_) (fun b u v e=>?_) (fun b ps e=>⟨#[],?_⟩) (fun m hm=>?_) (fun b u e=>?_) I.bare
 · obtain ⟨_,f1,_,f3,f4,f5⟩:=hf b hb
   exact ⟨f3,f1,f4,f5⟩
 · rw [upd_ne (Nat.ne_of_lt (Nat.lt_of_lt_of_le (Heap.lt_size e) ht))]; exact n
 · rw [upd_ne (ne_of_none e hn)]; exact e
 · rw [upd_ne (ne_of_none e hn)]; exact e
 · rw [upd_ne (ne_of_none e hn),e]; simp
 · obtain ⟨ob,es,ep,ho,r⟩:=hm
   exact ⟨ob,es,ep,k _ ob (fun z=>(hf _ z).2.1 rfl) ho,r⟩
 · by_cases hb:b=t
   · subst hb; rw [upd_same] at e; cases e; exact new
   · rw [upd_ne hb] at e
     refine (I.hok b u e).stay (fun c v hc q=>k c v ?_ q) (fun c q=>by rw [upd_ne (ne_of_none q hn)]; exact q) fun c xs q=>by rw [upd_ne (ne_of_none q hn)]; exact q
     rcases hc with z | z
     · rw [z]; exact nch b u e
     · exact nch c _ z
end
section
variable {X:Cx}
end
end L2
namespace L2
open PySem PySem.Spec PyProof.Rows
section
variable {X:Cx}
theorem call_sum_ints (hc:X.calm=true):CallR X (.builtin "sum") (fun xs H Q=>∃ (p:Addr) (ns:List Int),xs=[.ref p]∧SqL X.K H p (ns.map V.int)∧Q (.int ns.sum) H):=by
 intro pins s σ H xs us Q I r h
 obtain ⟨p,ns,rfl,hq,q⟩:=h
 obtain ⟨u,rfl,rx⟩:=vals1 r
 cases rx
 obtain ⟨its,rv,pl,hz⟩:=I.list hq
 have hI:IntsAre its ns:=intsAre_of rv
 obtain ⟨xs,e⟩:=hI.allInts.items
 have hn:=hI.numsOf
 have hl:s.heap.IsList p (intItems xs):=by rw [← e]; exact pl.isList
 refine sum_intListG (I.ok.hd hc) hl fun h' tk t' hk=>?_
 have e2:preSum (numAt xs) xs.size=ns.sum:=by
  rw [preSum_eq,List.take_of_length_le (by simp),← nums_intItems,← e,List.toList_toArray,hn]
 rw [e2]
 exact ⟨.int ns.sum,H,I.kept hk,⟨_,rfl⟩,q⟩
end
end L2
namespace K01
open PySem Builtin Builtin.Str
def letters:Str:="abcdefghijklmnopqrstuvwxyz"
def inL (c:Nat):Bool:=!(occurrences letters ⟨#[c]⟩ 0 letters.length 1).isEmpty
def nameS (x:Str):Bool:=decide (1≤(x.length:Int)) && (decide ((x.length:Int)≤8) && x.cps.toList.all inL)
end K01
namespace VT
open PySem PySem.Spec PyProof.Rows L2
abbrev St:=L2.St
inductive Atm where
 | non
 | key (k:Key)
 | tup (l:List Key)
deriving DecidableEq
structure FnS where
 name:Str
 qual:Str
 params:Arguments
 body:List Stmt
 scope:Scope
 free:List Str
inductive T where
 | non | bl (b:Bool) | int (i:Int) | str (x:Str) | tup (l:List T) | lst (l:List T) | dk (ks:List Key) (vs:List T) | dt (ks:List (List Key)) (vs:List T) | df (o:Obj) (ks:List (List Key)) (vs:List T) | dz (o:Obj) (ks:List Key) (vs:List T) | dc (nh:List Key×Key→Int) (ks:List (List Key×Key)) (vs:List T) | ds (nh:List Atm→Int) (ks:List (List Atm)) | kt (k:List Key) | ins (C:Addr) (ns:List Str) (vs:List T) | pin (a:Addr) (t:T) | clo (F:FnS) (vs:List T) | ob (a:Addr) | ty (n:String)
def LsAt (K:PySem.W.Frag) (H:Hp) (O:List Addr) (a:Addr) (vs:List V):Prop :=
 (Rd H a (.lst vs)∧a∉O)∨∃ (o:Obj) (its:Array Value) (n:Nat),K.lookup a=some o∧o.cls = .type "list"∧o.dict=none∧o.data = .seq its n∧its.size≤sizeLine∧Vals vs its.toList
theorem LsAt.sq {K:PySem.W.Frag} {H:Hp} {O:List Addr} {a:Addr} {vs:List V} (h:LsAt K H O a vs):SqL K H a vs:=by
 rcases h with h | h
 · exact .inl h.1
 · exact .inr h
def DkAt (H:Hp) (O:List Addr) (a:Addr) (u:HO):Prop:=H a=some u∧a∉O
def dcIs {κ:Type} (nh:κ→Int) (a:Addr) (xs:List (κ×Addr×Value)):Heap→Prop:=fun h=>∃ o es ep,h.get? a=some o∧o.ExactDict∧o.data = .dict es ep∧es.toList=xs.map (fun x=>⟨nh x.1,.ref x.2.1,x.2.2⟩)∧(xs.map (·.1)).Nodup
def KeyS (K:PySem.W.Frag) (H:Hp) (c:List Key×Key) (b:Addr):Prop:=∃ d,SqT K H b [.ref d,kV c.2]∧SqT K H d (c.1.map kV)
def AtmV (K:PySem.W.Frag) (H:Hp) (x:Atm) (v:V):Prop:=match x with
 | .non=>v = .non
 | .key k=>v=kV k
 | .tup l=>∃ d,v = .ref d∧SqT K H d (l.map kV)
def AtmL (K:PySem.W.Frag) (H:Hp):List Atm→List V→Prop
 | [],vs=>vs=[]
 | x :: xs,vs=>∃ v r,vs=v :: r∧AtmV K H x v∧AtmL K H xs r
def KeyA (K:PySem.W.Frag) (H:Hp) (c:List Atm) (b:Addr):Prop:=∃ vs,SqT K H b vs∧AtmL K H c vs
theorem AtmV.map {K:PySem.W.Frag} {H H':Hp} (ht:∀ a vs,SqT K H a vs→SqT K H' a vs) {x:Atm} {v:V} (h:AtmV K H x v):AtmV K H' x v:=by
 cases x with
 | non=>exact h
 | key k=>exact h
 | tup l=>exact let ⟨d,e,q⟩:=h; ⟨d,e,ht _ _ q⟩
theorem AtmL.map {K:PySem.W.Frag} {H H':Hp} (ht:∀ a vs,SqT K H a vs→SqT K H' a vs):∀ {c:List Atm} {vs:List V},AtmL K H c vs→AtmL K H' c vs
 | [],_,h=>h
 | _ :: _,_,⟨v,r,e,h1,h2⟩=>⟨v,r,e,h1.map ht,h2.map ht⟩
theorem KeyA.map {K:PySem.W.Frag} {H H':Hp} (ht:∀ a vs,SqT K H a vs→SqT K H' a vs) {c:List Atm} {b:Addr} (h:KeyA K H c b):KeyA K H' c b:=let ⟨vs,q1,q2⟩:=h; ⟨vs,ht _ _ q1,q2.map ht⟩
def obX (a:Addr) (o:Obj):HO:=.ext fun h=>h.get? a=some o
def CloAt (H:Hp) (O:List Addr) (F:FnS) (f:Addr) (vs:List V):Prop :=
 ∃ (cl:List (Str×Addr)) (c:Addr) (oc:Obj) (fv:Array Value) (t:Tok) (doc pm ctv:Value),DkAt H O f (obX f (PySem.W.fnMade F.name F.qual F.params F.body F.scope cl doc pm c ctv))∧DkAt H O c (obX c oc)∧oc.data = .fields fv∧fv[1]?=some (.str F.qual t) ∧
  cl.map (·.1)=F.free∧(cl.map (·.2)).Nodup∧(∀ p∈cl,p.2≠f∧p.2≠c)∧Paired (fun (p:Str×Addr) v=>∃ o u,DkAt H O p.2 (obX p.2 o)∧o.data = .cell (some u)∧RelV v u) cl vs
theorem CloAt.map {H H':Hp} {O O':List Addr} (hd:∀ a u,DkAt H O a u→DkAt H' O' a u) {F:FnS} {f:Addr} {vs:List V} (h:CloAt H O F f vs):CloAt H' O' F f vs:=by
 obtain ⟨cl,c,oc,fv,t,doc,pm,ctv,h1,h2,h3,h4,h5,h6,h7,h8⟩:=h
 exact ⟨cl,c,oc,fv,t,doc,pm,ctv,hd _ _ h1,hd _ _ h2,h3,h4,h5,h6,h7,Paired.mapP h8 fun p v ⟨o,u,q1,q2,q3⟩=>⟨o,u,hd _ _ q1,q2,q3⟩⟩
mutual
def At (K:PySem.W.Frag) (H:Hp) (O:List Addr):T→V→Prop
 | .non,v=>v = .non
 | .bl b,v=>v = .bl b
 | .int i,v=>v = .int i
 | .str x,v=>v = .str x
 | .ob a,v=>v = .ref a
 | .ty n,v=>v = .ty n
 | .tup ts,v=>∃ a vs,v = .ref a∧SqT K H a vs∧AtL K H O ts vs
 | .lst ts,v=>∃ a vs,v = .ref a∧LsAt K H O a vs∧AtL K H O ts vs
 | .dk ks ts,v=>∃ a vs,v = .ref a∧ks.length=vs.length∧DkAt H O a (.dK (ks.zip vs))∧AtL K H O ts vs
 | .dt ks ts,v=>∃ a vs,v = .ref a∧ks.length=vs.length∧DkAt H O a (.dT (ks.zip vs))∧AtL K H O ts vs
 | .df o ks ts,v=>∃ a vs,v = .ref a∧ks.length=vs.length∧DkAt H O a (.frz o (.dT (ks.zip vs)))∧AtL K H O ts vs
 | .dz o ks ts,v=>∃ a vs,v = .ref a∧ks.length=vs.length∧DkAt H O a (.frz o (.dK (ks.zip vs)))∧AtL K H O ts vs
 | .dc nh ks ts,v=>∃ a xs vs,v = .ref a∧DkAt H O a (.ext (dcIs nh a xs))∧ks=xs.map (·.1)∧(a == sysModules)=false∧(∀ x∈xs,KeyS K H x.1 x.2.1)∧Vals vs (xs.map (·.2.2))∧AtL K H O ts vs
 | .ds nh ks,v=>∃ a xs,v = .ref a∧DkAt H O a (.ext (dcIs nh a xs))∧ks=xs.map (·.1)∧(a == sysModules)=false∧∀ x∈xs,KeyA K H x.1 x.2.1
 | .clo F ts,v=>∃ f vs,v = .ref f∧CloAt H O F f vs∧AtL K H O ts vs
 | .kt k,v=>∃ a,v = .ref a∧DkAt H [] a (.tup (k.map kV))
 | .pin a t,v=>v = .ref a∧At K H O t v
 | .ins C ns ts,v=>∃ a dx vs,v = .ref a∧ns.length=vs.length∧DkAt H O a (.ins C dx (ns.zip vs))∧AtL K H O ts vs
def AtL (K:PySem.W.Frag) (H:Hp) (O:List Addr):List T→List V→Prop
 | [],vs=>vs=[]
 | t :: ts,vs=>∃ v r,vs=v :: r∧At K H O t v∧AtL K H O ts r
end
section
variable {K:PySem.W.Frag} {H H':Hp} {O O':List Addr}
mutual
theorem At.map (hl:∀ a vs,LsAt K H O a vs→LsAt K H' O' a vs) (ht:∀ a vs,SqT K H a vs→SqT K H' a vs) (hd:∀ a u,DkAt H O a u→DkAt H' O' a u) (hk:∀ a vs,H a=some (.tup vs)→H' a=some (.tup vs)):∀ {t:T} {v:V},At K H O t v→At K H' O' t v
 | .non,_,h=>by simpa only [At] using h
 | .bl _,_,h=>by simpa only [At] using h
 | .int _,_,h=>by simpa only [At] using h
 | .str _,_,h=>by simpa only [At] using h
 | .ob _,_,h=>by simpa only [At] using h
 | .ty _,_,h=>by simpa only [At] using h
 | .tup ts,_,h=>by
   simp only [At] at h ⊢
   obtain ⟨a,vs,e,h1,h2⟩:=h
   exact ⟨a,vs,e,ht a vs h1,AtL.map hl ht hd hk h2⟩
 | .lst ts,_,h=>by
   simp only [At] at h ⊢
   obtain ⟨a,vs,e,h1,h2⟩:=h
   exact ⟨a,vs,e,hl a vs h1,AtL.map hl ht hd hk h2⟩
 | .dk ks ts,_,h=>by
   simp only [At] at h ⊢
   obtain ⟨a,vs,e,h0,h1,h2⟩:=h
   exact ⟨a,vs,e,h0,hd _ _ h1,AtL.map hl ht hd hk h2⟩
 | .dt ks ts,_,h=>by
   simp only [At] at h ⊢
   obtain ⟨a,vs,e,h0,h1,h2⟩:=h
   exact ⟨a,vs,e,h0,hd _ _ h1,AtL.map hl ht hd hk h2⟩
 | .df o ks ts,_,h=>by
   simp only [At] at h ⊢
   obtain ⟨a,vs,e,h0,h1,h2⟩:=h
   exact ⟨a,vs,e,h0,hd _ _ h1,AtL.map hl ht hd hk h2⟩
 | .dz o ks ts,_,h=>by
   simp only [At] at h ⊢
   obtain ⟨a,vs,e,h0,h1,h2⟩:=h
   exact ⟨a,vs,e,h0,hd _ _ h1,AtL.map hl ht hd hk h2⟩
 | .dc nh ks ts,_,h=>by
   simp only [At] at h ⊢
   obtain ⟨a,xs,vs,e,h0,h1,hm,h2,h3,h4⟩:=h
   exact ⟨a,xs,vs,e,hd _ _ h0,h1,hm,fun x hx=>let ⟨d,q1,q2⟩:=h2 x hx; ⟨d,ht _ _ q1,ht _ _ q2⟩,h3,AtL.map hl ht hd hk h4⟩
 | .ds nh ks,_,h=>by
   simp only [At] at h ⊢
   obtain ⟨a,xs,e,h0,h1,hm,h2⟩:=h
   exact ⟨a,xs,e,hd _ _ h0,h1,hm,fun x hx=>(h2 x hx).map ht⟩
 | .clo F ts,_,h=>by
   simp only [At] at h ⊢
   obtain ⟨f,vs,e,h1,h2⟩:=h
   exact ⟨f,vs,e,h1.map hd,AtL.map hl ht hd hk h2⟩
 | .kt k,_,h=>by
   simp only [At] at h ⊢
   obtain ⟨a,e,h1⟩:=h
   exact ⟨a,e,hk _ _ h1.1,h1.2⟩
 | .pin a t,_,h=>by
   simp only [At] at h ⊢
   exact ⟨h.1,At.map hl ht hd hk h.2⟩
 | .ins C ns ts,_,h=>by
   simp only [At] at h ⊢
   obtain ⟨a,dx,vs,e,h0,h1,h2⟩:=h
   exact ⟨a,dx,vs,e,h0,hd _ _ h1,AtL.map hl ht hd hk h2⟩
theorem AtL.map (hl:∀ a vs,LsAt K H O a vs→LsAt K H' O' a vs) (ht:∀ a vs,SqT K H a vs→SqT K H' a vs) (hd:∀ a u,DkAt H O a u→DkAt H' O' a u) (hk:∀ a vs,H a=some (.tup vs)→H' a=some (.tup vs)):∀ {ts:List T} {vs:List V},AtL K H O ts vs→AtL K H' O' ts vs
 | [],_,h=>by simpa only [AtL] using h
 | t :: ts,_,h=>by
   simp only [AtL] at h ⊢
   obtain ⟨v,r,e,h1,h2⟩:=h
   exact ⟨v,r,e,At.map hl ht hd hk h1,AtL.map hl ht hd hk h2⟩
end
theorem Rd.same {a:Addr} {u:HO} (s:Same H H') (h:Rd H a u):Rd H' a u:=by
 rcases h with h | ⟨o,h⟩
 · exact .inl (s _ _ h)
 · exact .inr ⟨o,s _ _ h⟩
theorem SqT.same {a:Addr} {vs:List V} (s:Same H H') (h:SqT K H a vs):SqT K H' a vs:=by
 rcases h with h | h
 · exact .inl (Rd.same s h)
 · exact .inr h
theorem LsAt.same {a:Addr} {vs:List V} (s:Same H H') (h:LsAt K H O a vs):LsAt K H' O a vs:=by
 rcases h with h | h
 · exact .inl ⟨Rd.same s h.1,h.2⟩
 · exact .inr h
theorem At.same {t:T} {v:V} (s:Same H H') (h:At K H O t v):At K H' O t v:=At.map (fun _ _ q=>q.same s) (fun _ _ q=>SqT.same s q) (fun _ _ q=>⟨s _ _ q.1,q.2⟩) (fun _ _ q=>s _ _ q) h
theorem AtL.same {t:List T} {v:List V} (s:Same H H') (h:AtL K H O t v):AtL K H' O t v:=AtL.map (fun _ _ q=>q.same s) (fun _ _ q=>SqT.same s q) (fun _ _ q=>⟨s _ _ q.1,q.2⟩) (fun _ _ q=>s _ _ q) h
theorem At.fewer {t:T} {v:V} (s:∀ a∈O',a∈O) (h:At K H O t v):At K H O' t v :=
 At.map (fun a vs q=>q.elim (fun z=>.inl ⟨z.1,fun m=>z.2 (s a m)⟩) .inr) (fun _ _ q=>q) (fun a _ q=>⟨q.1,fun m=>q.2 (s a m)⟩) (fun _ _ q=>q) h
theorem AtL.fewer {t:List T} {v:List V} (s:∀ a∈O',a∈O) (h:AtL K H O t v):AtL K H O' t v :=
 AtL.map (fun a vs q=>q.elim (fun z=>.inl ⟨z.1,fun m=>z.2 (s a m)⟩) .inr) (fun _ _ q=>q) (fun a _ q=>⟨q.1,fun m=>q.2 (s a m)⟩) (fun _ _ q=>q) h
theorem Rd.some {a:Addr} {u:HO} (h:Rd H a u):H a≠none:=by
 rcases h with h | ⟨o,h⟩ <;> rw [h] <;> simp
theorem At.more {t:T} {v:V} (s:∀ a∈O',a∈O∨H a=none) (h:At K H O t v):At K H O' t v :=
 At.map (fun a vs q=>q.elim (fun z=>.inl ⟨z.1,fun m=>(s a m).elim z.2 (Rd.some z.1)⟩) .inr) (fun _ _ q=>q) (fun a kvs q=>⟨q.1,fun m=>(s a m).elim q.2 (by rw [q.1]; simp)⟩) (fun _ _ q=>q) h
theorem AtL.more {t:List T} {v:List V} (s:∀ a∈O',a∈O∨H a=none) (h:AtL K H O t v):AtL K H O' t v :=
 AtL.map (fun a vs q=>q.elim (fun z=>.inl ⟨z.1,fun m=>(s a m).elim z.2 (Rd.some z.1)⟩) .inr) (fun _ _ q=>q) (fun a kvs q=>⟨q.1,fun m=>(s a m).elim q.2 (by rw [q.1]; simp)⟩) (fun _ _ q=>q) h
def mutO:HO→Bool
 | .lst _=>true
 | .dK _=>true
 | .dT _=>true
 | .ins _ _ _=>true
 | .ext _=>true
 | _=>false
theorem At.wrote {t:T} {v:V} {a:Addr} {o u:HO} (ha:a∈O) (hu:H a=some u) (hm:mutO u=true) (h:At K H O t v):At K (upd H a o) O t v:=by
 have ne:∀ b,b∉O→b≠a:=fun b hb e=>hb (by rw [e]; exact ha)
 refine At.map (fun b vs q=>?_) (fun b vs q=>?_) (fun b kvs q=>?_) (fun b vs q=>by rw [upd_ne (ne_of q hu (by intro e; subst e; cases hm))]; exact q) h
 · rcases q with q | q
   · refine .inl ⟨?_,q.2⟩
     rcases q.1 with z | ⟨o',z⟩
     · exact .inl (by rw [upd_ne (ne b q.2)]; exact z)
     · exact .inr ⟨o',by rw [upd_ne (ne b q.2)]; exact z⟩
   · exact .inr q
 · rcases q with z | z
   · refine .inl ?_
     rcases z with z | ⟨o',z⟩
     · exact .inl (by rw [upd_ne (ne_of z hu (by intro e; subst e; cases hm))]; exact z)
     · exact .inr ⟨o',by rw [upd_ne (ne_of z hu (by intro e; subst e; cases hm))]; exact z⟩
   · exact .inr z
 · exact ⟨by rw [upd_ne (ne b q.2)]; exact q.1,q.2⟩
theorem AtL.iff {ts:List T}:∀ {vs:List V},AtL K H O ts vs↔Paired (fun v t=>At K H O t v) vs ts:=by
 induction ts with
 | nil=>intro vs; simp only [AtL]; exact ⟨fun e=>by subst e; exact .nil,fun h=>by cases h; rfl⟩
 | cons t ts ih =>
   intro vs
   simp only [AtL]
   constructor
   · rintro ⟨v,r,rfl,h1,h2⟩
     exact .cons h1 (ih.mp h2)
   · intro h
     cases h with
     | cons h1 h2=>exact ⟨_,_,rfl,h1,ih.mpr h2⟩
theorem AtL.wrote {t:List T} {v:List V} {a:Addr} {o u:HO} (ha:a∈O) (hu:H a=some u) (hm:mutO u=true) (h:AtL K H O t v):AtL K (upd H a o) O t v :=
 AtL.iff.mpr (Paired.mapP (AtL.iff.mp h) fun _ _ q=>q.wrote ha hu hm)
theorem AtL.length {ts:List T} {vs:List V} (h:AtL K H O ts vs):vs.length=ts.length:=Paired.length (AtL.iff.mp h)
theorem AtL.get {ts:List T} {vs:List V} (h:AtL K H O ts vs) {i:Nat} {t:T} (e:ts[i]?=some t):∃ v,vs[i]?=some v∧At K H O t v:=by
 have q:=AtL.iff.mp h
 clear h
 induction q generalizing i with
 | nil=>simp at e
 | cons r _ ih =>
   cases i with
   | zero=>simp at e; subst e; exact ⟨_,rfl,r⟩
   | succ i=>obtain ⟨v,h1,h2⟩:=ih (i:=i) (by simpa using e); exact ⟨v,by simpa using h1,h2⟩
theorem AtL.cons {t:T} {ts:List T} {v:V} {vs:List V} (h:At K H O t v) (hs:AtL K H O ts vs):AtL K H O (t :: ts) (v :: vs):=by
 simp only [AtL]; exact ⟨v,vs,rfl,h,hs⟩
theorem AtL.nil:AtL K H O [] []:=by simp only [AtL]
theorem AtL.append {ts us:List T} {vs ws:List V} (h:AtL K H O ts vs) (h':AtL K H O us ws):AtL K H O (ts ++ us) (vs ++ ws):=by
 rw [AtL.iff] at h h' ⊢
 induction h with
 | nil=>exact h'
 | cons r _ ih=>exact .cons r ih
theorem AtL.drop {ts:List T} {vs:List V} (n:Nat) (h:AtL K H O ts vs):AtL K H O (ts.drop n) (vs.drop n):=by
 rw [AtL.iff] at h ⊢
 induction h generalizing n with
 | nil=>cases n <;> exact .nil
 | cons r t ih=>cases n with
   | zero=>exact .cons r t
   | succ n=>exact ih n
theorem AtL.take {ts:List T} {vs:List V} (n:Nat) (h:AtL K H O ts vs):AtL K H O (ts.take n) (vs.take n):=by
 rw [AtL.iff] at h ⊢
 induction h generalizing n with
 | nil=>cases n <;> exact .nil
 | cons r t ih=>cases n with
   | zero=>exact .nil
   | succ n=>exact .cons r (ih n)
theorem AtL.reverse {ts:List T} {vs:List V} (h:AtL K H O ts vs):AtL K H O ts.reverse vs.reverse:=by
 induction ts generalizing vs with
 | nil=>simp only [AtL] at h; subst h; exact AtL.nil
 | cons t ts ih =>
   simp only [AtL] at h
   obtain ⟨v,r,rfl,h1,h2⟩:=h
   rw [List.reverse_cons,List.reverse_cons]
   exact (ih h2).append (AtL.cons h1 AtL.nil)
end
mutual
def imm:T→Bool
 | .tup ts=>imms ts
 | .lst _=>false
 | .dk _ _=>false
 | .dt _ _=>false
 | .df _ _ _=>false
 | .dz _ _ _=>false
 | .dc _ _ _=>false
 | .ds _ _=>false
 | .clo _ _=>false
 | .kt _=>false
 | .ins _ _ _=>false
 | .pin _ _=>false
 | _=>true
def imms:List T→Bool
 | []=>true
 | t :: ts=>imm t && imms ts
end
section
variable {K:PySem.W.Frag} {H H':Hp} {O O':List Addr}
end
end VT
namespace VT
open PySem PySem.Spec PyProof.Rows L2
abbrev En:=List (Option (T×Bool))
structure Zc where
 H0:Hp
 P:List (Nat×Addr)
 Ox:List Addr
def Zc.ex (Z:Zc) (a:Addr):Zc:={ Z with Ox:=a :: Z.Ox }
def Root (K:PySem.W.Frag) (H:Hp) (A:List Addr) (a:Addr):T→Prop
 | .lst ts=>∃ vs,H a=some (.lst vs)∧AtL K H A ts vs
 | .dk ks ts=>∃ vs,ks.length=vs.length∧H a=some (.dK (ks.zip vs))∧AtL K H A ts vs
 | .dt ks ts=>∃ vs,ks.length=vs.length∧H a=some (.dT (ks.zip vs))∧AtL K H A ts vs
 | .ins C ns ts=>∃ dx vs,ns.length=vs.length∧H a=some (.ins C dx (ns.zip vs))∧AtL K H A ts vs
 | _=>False
def SlotAt (K:PySem.W.Frag) (H:Hp) (A:List Addr):Option (T×Bool)→Option Addr→Option V→Prop
 | none,o,_=>o=none
 | some (t,false),o,s=>o=none∧∃ v,s=some v∧At K H A t v
 | some (t,true),o,s=>∃ a,o=some a∧s=some (.ref a)∧Root K H A a t
def roots (O:List (Option Addr)):List Addr:=O.filterMap id
def av (Z:Zc) (O:List (Option Addr)):List Addr:=roots O ++ Z.Ox
structure EnvAt (K:PySem.W.Frag) (Z:Zc) (tm:List (T×V)) (O:List (Option Addr)) (ρ:En) (σ:St) (H:Hp):Prop where
 lσ:σ.length=ρ.length
 lO:O.length=ρ.length
 sl:∀ (i:Nat) e,ρ[i]?=some e→∃ o s,O[i]?=some o∧σ[i]?=some s∧SlotAt K H (av Z O) e o s
 nd:(roots O).Nodup
 own:∀ a∈roots O,(a∈Z.P.map (·.2)∨Z.H0 a=none)∧a∉Z.Ox∧∃ u,H a=some u∧mutO u=true
 par:∀ p∈Z.P,O[p.1]?=some (some p.2)
 ox:∀ a∈Z.Ox,H a≠none
 keep:∀ b o,Z.H0 b=some o→b∉Z.P.map (·.2)→H b=some o
 tmp:∀ p∈tm,At K H (av Z O) p.1 p.2
section
variable {K:PySem.W.Frag} {Z:Zc} {tm:List (T×V)} {O:List (Option Addr)} {ρ:En} {σ:St} {H H':Hp}
theorem Root.map {A A':List Addr} {a:Addr} {t:T} (h:Root K H A a t) (h1:H' a=H a) (h2:∀ ts vs,AtL K H A ts vs→AtL K H' A' ts vs):Root K H' A' a t:=by
 cases t with
 | lst ts=>obtain ⟨vs,e,q⟩:=h; exact ⟨vs,h1.trans e,h2 _ _ q⟩
 | dk ks ts=>obtain ⟨vs,l,e,q⟩:=h; exact ⟨vs,l,h1.trans e,h2 _ _ q⟩
 | dt ks ts=>obtain ⟨vs,l,e,q⟩:=h; exact ⟨vs,l,h1.trans e,h2 _ _ q⟩
 | ins C ns ts=>obtain ⟨dx,vs,l,e,q⟩:=h; exact ⟨dx,vs,l,h1.trans e,h2 _ _ q⟩
 | _=>exact h.elim
theorem Root.mut {A:List Addr} {a:Addr} {t:T} (h:Root K H A a t):∃ u,H a=some u∧mutO u=true:=by
 cases t with
 | lst ts=>obtain ⟨vs,e,q⟩:=h; exact ⟨_,e,rfl⟩
 | dk ks ts=>obtain ⟨vs,l,e,q⟩:=h; exact ⟨_,e,rfl⟩
 | dt ks ts=>obtain ⟨vs,l,e,q⟩:=h; exact ⟨_,e,rfl⟩
 | ins C ns ts=>obtain ⟨dx,vs,l,e,q⟩:=h; exact ⟨_,e,rfl⟩
 | _=>exact h.elim
theorem Root.fewer {A A':List Addr} {a:Addr} {t:T} (h:Root K H A a t) (s:∀ b∈A',b∈A):Root K H A' a t:=h.map rfl fun _ _ q=>q.fewer s
theorem Root.same {A:List Addr} {a:Addr} {t:T} (h:Root K H A a t) (s:Same H H'):Root K H' A a t:=by
 obtain ⟨u,e,_⟩:=h.mut
 exact h.map (by rw [e]; exact s _ _ e) fun _ _ q=>q.same s
theorem Root.at {A:List Addr} {a:Addr} {t:T} (h:Root K H A a t) (n:a∉A):At K H A t (.ref a):=by
 cases t with
 | lst ts=>obtain ⟨vs,e,q⟩:=h; simp only [At]; exact ⟨a,vs,rfl,.inl ⟨.inl e,n⟩,q⟩
 | dk ks ts=>obtain ⟨vs,l,e,q⟩:=h; simp only [At]; exact ⟨a,vs,rfl,l,⟨e,n⟩,q⟩
 | dt ks ts=>obtain ⟨vs,l,e,q⟩:=h; simp only [At]; exact ⟨a,vs,rfl,l,⟨e,n⟩,q⟩
 | ins C ns ts=>obtain ⟨dx,vs,l,e,q⟩:=h; simp only [At]; exact ⟨a,dx,vs,rfl,l,⟨e,n⟩,q⟩
 | _=>exact h.elim
theorem SlotAt.map {A A':List Addr} {e:Option (T×Bool)} {o:Option Addr} {s:Option V} (h:SlotAt K H A e o s) (h1:∀ t v,At K H A t v→At K H' A' t v) (h2:∀ a t,o=some a→Root K H A a t→Root K H' A' a t):SlotAt K H' A' e o s:=by
 match e,h with
 | none,h=>exact h
 | some (t,false),⟨e,v,es,q⟩=>exact ⟨e,v,es,h1 _ _ q⟩
 | some (t,true),⟨a,e,es,q⟩=>exact ⟨a,e,es,h2 _ _ e q⟩
theorem mem_roots {a:Addr}:a∈roots O↔some a∈O:=by
 unfold roots
 rw [List.mem_filterMap]
 exact ⟨fun ⟨x,h,e⟩=>by rw [id] at e; rw [← e]; exact h,fun h=>⟨_,h,rfl⟩⟩
theorem EnvAt.avH (I:EnvAt K Z tm O ρ σ H):∀ a∈av Z O,H a≠none:=fun a h=>by
 rcases List.mem_append.mp h with h | h
 · obtain ⟨_,_,u,e,_⟩:=I.own a h; rw [e]; simp
 · exact I.ox a h
theorem EnvAt.same (I:EnvAt K Z tm O ρ σ H) (s:Same H H'):EnvAt K Z tm O ρ σ H' :=
 ⟨I.lσ,I.lO,fun i e h=>let ⟨o,w,h1,h2,h3⟩:=I.sl i e h; ⟨o,w,h1,h2,h3.map (fun _ _ q=>q.same s) fun _ _ _ q=>q.same s⟩,I.nd,
   fun a h=>let ⟨h1,h2,u,e,m⟩:=I.own a h; ⟨h1,h2,u,s _ _ e,m⟩,I.par,fun a h=>by
    cases e:H a with
    | none=>exact absurd e (I.ox a h)
    | some u=>rw [s _ _ e]; simp,
   fun b o e n=>s _ _ (I.keep b o e n),fun p hp=>(I.tmp p hp).same s⟩
theorem roots_set_sub (i:Nat):∀ a∈roots (O.set i none),a∈roots O:=fun a h=>by
 rw [mem_roots] at h ⊢
 rcases List.mem_or_eq_of_mem_set h with z | z
 · exact z
 · cases z
theorem nd_set_none:∀ (O:List (Option Addr)) (i:Nat),(roots O).Nodup→(roots (O.set i none)).Nodup
 | [],i,h=>by simpa using h
 | o :: O,0,h=>by
   cases o with
   | none=>simpa [roots] using h
   | some a=>simp only [roots,List.set_cons_zero,List.filterMap_cons,id] at h ⊢; exact (List.nodup_cons.mp h).2
 | o :: O,i+1,h=>by
   have key:=nd_set_none O i
   cases o with
   | none=>simp only [roots,List.set_cons_succ,List.filterMap_cons,id] at h ⊢; exact key h
   | some a =>
     simp only [roots,List.set_cons_succ,List.filterMap_cons,id] at h ⊢
     rw [List.nodup_cons] at h ⊢
     exact ⟨fun z=>h.1 (roots_set_sub i a z),key h.2⟩
theorem av_none_sub (i:Nat):∀ a∈av Z (O.set i none),a∈av Z O:=fun a h=>by
 rcases List.mem_append.mp h with h | h
 · exact List.mem_append_left _ (roots_set_sub i a h)
 · exact List.mem_append_right _ h
theorem get_set {α:Type} {l:List α} {i j:Nat} {x y:α} (h:(l.set i x)[j]?=some y):(j=i∧y=x∧i < l.length)∨(j≠i∧l[j]?=some y):=by
 rw [List.getElem?_set] at h
 by_cases e:i=j
 · rw [if_pos e] at h
   by_cases hl:i < l.length
   · rw [if_pos hl] at h
     exact .inl ⟨e.symm,(Option.some.inj h).symm,hl⟩
   · rw [if_neg hl] at h; cases h
 · rw [if_neg e] at h
   exact .inr ⟨fun z=>e z.symm,h⟩
theorem EnvAt.put (I:EnvAt K Z tm O ρ σ H) {i:Nat} {t:T} {v:V} (hp:∀ p∈Z.P,p.1≠i) (hv:At K H (av Z O) t v):EnvAt K Z tm (O.set i none) (ρ.set i (some (t,false))) (σ.set i (some v)) H:=by
 have fw:∀ {t:T} {v:V},At K H (av Z O) t v→At K H (av Z (O.set i none)) t v:=fun q=>q.fewer (av_none_sub i)
 refine ⟨by simp [I.lσ],by simp [I.lO],fun j e h=>?_,nd_set_none _ _ I.nd,fun a h=>I.own a (roots_set_sub i a h),fun p q=>?_,I.ox,I.keep,fun p q=>fw (I.tmp p q)⟩
 · rcases get_set h with ⟨rfl,rfl,hl⟩ | ⟨ne,h⟩
   · exact ⟨none,some v,by rw [List.getElem?_set_self (by rw [I.lO]; exact hl)],by rw [List.getElem?_set_self (by rw [I.lσ]; exact hl)],rfl,v,rfl,fw hv⟩
   · obtain ⟨o,s,h1,h2,h3⟩:=I.sl j e h
     exact ⟨o,s,by rw [List.getElem?_set_ne (Ne.symm ne)]; exact h1,by rw [List.getElem?_set_ne (Ne.symm ne)]; exact h2,h3.map (fun _ _ q=>fw q) fun _ _ _ q=>q.fewer (av_none_sub i)⟩
 · rw [List.getElem?_set_ne (Ne.symm (hp p q))]; exact I.par p q
theorem EnvAt.forget (I:EnvAt K Z tm O ρ σ H) {i:Nat} (hp:∀ p∈Z.P,p.1≠i):EnvAt K Z tm (O.set i none) (ρ.set i none) σ H:=by
 have fw:∀ {t:T} {v:V},At K H (av Z O) t v→At K H (av Z (O.set i none)) t v:=fun q=>q.fewer (av_none_sub i)
 refine ⟨by simp [I.lσ],by simp [I.lO],fun j e h=>?_,nd_set_none _ _ I.nd,fun a h=>I.own a (roots_set_sub i a h),fun p q=>?_,I.ox,I.keep,fun p q=>fw (I.tmp p q)⟩
 · rcases get_set h with ⟨rfl,rfl,hl⟩ | ⟨ne,h⟩
   · obtain ⟨s,hs⟩:∃ s,σ[j]?=some s:=⟨σ[j]'(by rw [I.lσ]; exact hl),by simp⟩
     exact ⟨none,s,by rw [List.getElem?_set_self (by rw [I.lO]; exact hl)],hs,rfl⟩
   · obtain ⟨o,s,h1,h2,h3⟩:=I.sl j e h
     exact ⟨o,s,by rw [List.getElem?_set_ne (Ne.symm ne)]; exact h1,h2,h3.map (fun _ _ q=>fw q) fun _ _ _ q=>q.fewer (av_none_sub i)⟩
 · rw [List.getElem?_set_ne (Ne.symm (hp p q))]; exact I.par p q
theorem nd_set_some:∀ (O:List (Option Addr)) (i:Nat) (a:Addr),a∉roots O→(roots O).Nodup→(roots (O.set i (some a))).Nodup
 | [],i,a,_,h=>by simpa using h
 | o :: O,0,a,n,h=>by
   cases o with
   | none=>simp only [roots,List.set_cons_zero,List.filterMap_cons,id] at n h ⊢; exact List.nodup_cons.mpr ⟨n,h⟩
   | some b =>
     exact List.nodup_cons.mpr ⟨fun z=>n (List.mem_cons_of_mem _ z),(List.nodup_cons.mp h).2⟩
 | o :: O,i+1,a,n,h=>by
   have key:=nd_set_some O i a
   cases o with
   | none=>simp only [roots,List.set_cons_succ,List.filterMap_cons,id] at n h ⊢; exact key n h
   | some b =>
     simp only [roots,List.set_cons_succ,List.filterMap_cons,id] at n h ⊢
     rw [List.nodup_cons] at h ⊢
     refine ⟨fun z=>?_,key (fun z=>n (List.mem_cons_of_mem _ z)) h.2⟩
     have z':=mem_roots.mp z
     rcases List.mem_or_eq_of_mem_set z' with q | q
     · exact h.1 (mem_roots.mpr q)
     · exact n (by rw [Option.some.inj q]; exact List.mem_cons_self)
theorem av_some_sub {a:Addr} (i:Nat):∀ b∈av Z (O.set i (some a)),b∈av (Z.ex a) O:=fun b h=>by
 rcases List.mem_append.mp h with h | h
 · rcases List.mem_or_eq_of_mem_set (mem_roots.mp h) with z | z
   · exact List.mem_append_left _ (mem_roots.mpr z)
   · exact List.mem_append_right _ (by rw [Option.some.inj z]; exact List.mem_cons_self)
 · exact List.mem_append_right _ (List.mem_cons_of_mem _ h)
theorem EnvAt.own' {a:Addr} (I:EnvAt K (Z.ex a) tm O ρ σ H) {i:Nat} {t:T} (hp:∀ p∈Z.P,p.1≠i) (hv:Root K H (av (Z.ex a) O) a t) (h0:Z.H0 a=none) (hx:a∉Z.Ox):EnvAt K Z tm (O.set i (some a)) (ρ.set i (some (t,true))) (σ.set i (some (.ref a))) H:=by
 have sub:=av_some_sub (Z:=Z) (O:=O) (a:=a) i
 have fw:∀ {t:T} {v:V},At K H (av (Z.ex a) O) t v→At K H (av Z (O.set i (some a))) t v:=fun q=>q.fewer sub
 have na:=fun z=>(I.own a z).2.1 List.mem_cons_self
 refine ⟨by simp [I.lσ],by simp [I.lO],fun j e h=>?_,nd_set_some _ _ _ na I.nd,fun b h=>?_,fun p q=>?_,fun b h=>I.ox b (List.mem_cons_of_mem _ h),I.keep,fun p q=>fw (I.tmp p q)⟩
 · rcases get_set h with ⟨rfl,rfl,hl⟩ | ⟨ne,h⟩
   · exact ⟨some a,some (.ref a),by rw [List.getElem?_set_self (by rw [I.lO]; exact hl)],by rw [List.getElem?_set_self (by rw [I.lσ]; exact hl)],a,rfl,rfl,hv.fewer sub⟩
   · obtain ⟨o,s,h1,h2,h3⟩:=I.sl j e h
     exact ⟨o,s,by rw [List.getElem?_set_ne (Ne.symm ne)]; exact h1,by rw [List.getElem?_set_ne (Ne.symm ne)]; exact h2,h3.map (fun _ _ q=>fw q) fun _ _ _ q=>q.fewer sub⟩
 · rcases List.mem_or_eq_of_mem_set (mem_roots.mp h) with z | z
   · obtain ⟨h1,h2,h3⟩:=I.own b (mem_roots.mpr z)
     exact ⟨h1,fun q=>h2 (List.mem_cons_of_mem _ q),h3⟩
   · cases z
     exact ⟨.inr h0,hx,hv.mut⟩
 · rw [List.getElem?_set_ne (Ne.symm (hp p q))]; exact I.par p q
theorem EnvAt.wrote (I:EnvAt K Z tm O ρ σ H) {i:Nat} {t t':T} {a:Addr} {u:HO} (hi:ρ[i]?=some (some (t,true))) (hO:O[i]?=some (some a)) (hr:Root K (upd H a u) (av Z O) a t'):EnvAt K Z tm O (ρ.set i (some (t',true))) σ (upd H a u):=by
 have ha:=mem_roots.mpr (List.mem_of_getElem? hO)
 have hav:a∈av Z O:=List.mem_append_left _ ha
 obtain ⟨hP,hx,u0,e0,m0⟩:=I.own a ha
 have inj:∀ j b,j≠i→O[j]?=some (some b)→b≠a:=by
  intro j b ne hj e
  subst e
  have key:∀ O (i j:Nat),i < j→O[i]?=some (some b)→O[j]?=some (some b)→(roots O).Nodup→False:=by
   intro O
   induction O with
   | nil=>intro i j _ h; simp at h
   | cons o O ih =>
     intro i j hij e1 e2 nd
     cases j with
     | zero=>lia
     | succ j =>
       have e2':O[j]?=some (some b):=by simpa using e2
       cases i with
       | zero =>
         have:o=some b:=by simpa using e1
         subst this
         exact (List.nodup_cons.mp nd).1 (mem_roots.mpr (List.mem_of_getElem? e2'))
       | succ i =>
         refine ih i j (by lia) (by simpa using e1) e2' ?_
         cases o with
         | none=>simpa [roots] using nd
         | some c=>simp only [roots,List.filterMap_cons,id] at nd; exact (List.nodup_cons.mp nd).2
  rcases Nat.lt_or_gt_of_ne ne with l | l
  · exact key O j i l hj hO I.nd
  · exact key O i j l hO hj I.nd
 refine ⟨by simp [I.lσ],by simp [I.lO],fun j e h=>?_,I.nd,fun b h=>?_,I.par,fun b h=>?_,fun b o e n=>?_,fun p q=>(I.tmp p q).wrote hav e0 m0⟩
 · rcases get_set h with ⟨rfl,rfl,hl⟩ | ⟨ne,h⟩
   · obtain ⟨o,s,h1,h2,a',h4,h5,h6⟩:=I.sl j _ hi
     rw [hO] at h1
     cases h1
     cases h4
     exact ⟨_,s,hO,h2,a,rfl,h5,hr⟩
   · obtain ⟨o,s,h1,h2,h3⟩:=I.sl j e h
     refine ⟨o,s,h1,h2,h3.map (fun _ _ q=>q.wrote hav e0 m0) fun b t e q=>?_⟩
     subst e
     exact q.map (upd_ne (inj j b ne h1)) fun _ _ z=>z.wrote hav e0 m0
 · obtain ⟨h1,h2,v,e,m⟩:=I.own b h
   by_cases hb:b=a
   · subst hb; exact ⟨h1,h2,hr.mut⟩
   · exact ⟨h1,h2,v,by rw [upd_ne hb]; exact e,m⟩
 · by_cases hb:b=a
   · subst hb; exact absurd h hx
   · rw [upd_ne hb]; exact I.ox b h
 · by_cases hb:b=a
   · subst hb
     rcases hP with q | q
     · exact absurd q n
     · rw [q] at e; cases e
   · rw [upd_ne hb]; exact I.keep b o e n
theorem EnvAt.fresh (I:EnvAt K Z tm O ρ σ H) {a:Addr} (h:H a=none):a∉av Z O∧a∉Z.Ox∧Z.H0 a=none:=by
 refine ⟨fun z=>I.avH a z h,fun z=>I.ox a z h,?_⟩
 cases e:Z.H0 a with
 | none=>rfl
 | some o =>
   by_cases hp:a∈Z.P.map (·.2)
   · obtain ⟨p,hp',rfl⟩:=List.mem_map.mp hp
     obtain ⟨_,_,u,e',_⟩:=I.own p.2 (mem_roots.mpr (List.mem_of_getElem? (I.par p hp')))
     rw [h] at e'; cases e'
   · rw [I.keep a o e hp] at h; cases h
theorem av_ex_sub {a:Addr}:∀ b∈av (Z.ex a) O,b∈av Z O∨b=a:=fun b h=>by
 rcases List.mem_append.mp h with h | h
 · exact .inl (List.mem_append_left _ h)
 · rcases List.mem_cons.mp h with h | h
   · exact .inr h
   · exact .inl (List.mem_append_right _ h)
theorem sub_av_ex {a:Addr}:∀ b∈av Z O,b∈av (Z.ex a) O:=fun b h=>by
 rcases List.mem_append.mp h with h | h
 · exact List.mem_append_left _ h
 · exact List.mem_append_right _ (List.mem_cons_of_mem _ h)
theorem EnvAt.new (I:EnvAt K Z tm O ρ σ H) {a:Addr} {u:HO} (h:H a=none) (hu:mutO u=true):EnvAt K (Z.ex a) tm O ρ σ (upd H a u):=by
 have s:Same H (upd H a u):=same_upd h
 have J:=I.same s
 obtain ⟨n1,n2,n3⟩:=I.fresh h
 have mr:∀ b∈av (Z.ex a) O,b∈av Z O∨H b=none:=fun b hb=>(av_ex_sub b hb).imp id fun e=>by rw [e]; exact h
 have fw:∀ {t:T} {v:V},At K H (av Z O) t v→At K (upd H a u) (av (Z.ex a) O) t v:=fun q=>(q.more mr).same s
 refine ⟨J.lσ,J.lO,fun i e hi=>?_,J.nd,fun b hb=>?_,J.par,fun b hb=>?_,J.keep,fun p hp=>fw (I.tmp p hp)⟩
 · obtain ⟨o,w,h1,h2,h3⟩:=I.sl i e hi
   refine ⟨o,w,h1,h2,h3.map (fun _ _ q=>fw q) fun b t eo q=>?_⟩
   refine Root.same (q.map rfl fun _ _ z=>z.more mr) s
 · obtain ⟨q1,q2,q3⟩:=J.own b hb
   refine ⟨q1,fun z=>?_,q3⟩
   rcases List.mem_cons.mp z with z | z
   · exact n1 (by rw [← z]; exact List.mem_append_left _ hb)
   · exact q2 z
 · rcases List.mem_cons.mp hb with z | z
   · rw [z,upd_same]; simp
   · exact J.ox b z
theorem EnvAt.unex {a:Addr} (I:EnvAt K (Z.ex a) tm O ρ σ H):EnvAt K Z tm O ρ σ H :=
 ⟨I.lσ,I.lO,fun i e h=>let ⟨o,w,h1,h2,h3⟩:=I.sl i e h; ⟨o,w,h1,h2,h3.map (fun _ _ q=>q.fewer sub_av_ex) fun _ _ _ q=>q.fewer sub_av_ex⟩,I.nd,
   fun b h=>let ⟨q1,q2,q3⟩:=I.own b h; ⟨q1,fun z=>q2 (List.mem_cons_of_mem _ z),q3⟩,I.par,fun b h=>I.ox b (List.mem_cons_of_mem _ h),I.keep,fun p hp=>(I.tmp p hp).fewer sub_av_ex⟩
end
end VT
namespace VT
open PySem PySem.Spec PyProof.Rows L2
inductive Rt where
 | vw (t:T)
 | fr (t:T)
def Rt.t:Rt→T
 | .vw t=>t
 | .fr t=>t
def AtR (K:PySem.W.Frag) (H:Hp) (A:List Addr) (t:T) (v:V):Prop:=At K H A t v∨∃ a,v = .ref a∧Root K H A a t
def RetX (K:PySem.W.Frag) (Z:Zc) (tm:List (T×V)) (O:List (Option Addr)) (ρ:En) (σ:St) (H:Hp):Rt→V→Prop
 | .vw t,v=>EnvAt K Z tm O ρ σ H∧At K H (av Z O) t v
 | .fr t,v=>∃ a,v = .ref a∧EnvAt K (Z.ex a) tm O ρ σ H∧Root K H (av (Z.ex a) O) a t∧Z.H0 a=none∧a∉Z.Ox
abbrev FE:=En→(T→Prop)→Prop
abbrev FP:=En→(Rt→Prop)→Prop
abbrev FX:=En→(En→Rt→Prop)→Prop
abbrev FB:=En→(Bool→Prop)→Prop
abbrev FA:=En→(List T→Prop)→Prop
section
variable {K:PySem.W.Frag} {Z:Zc} {tm:List (T×V)} {O:List (Option Addr)} {ρ:En} {σ:St} {H H':Hp} {A:List Addr}
theorem AtR.same {t:T} {v:V} (s:Same H H') (h:AtR K H A t v):AtR K H' A t v:=h.imp (fun q=>q.same s) fun ⟨a,e,q⟩=>⟨a,e,q.same s⟩
theorem AtR.lst {ts:List T} {v:V} (h:AtR K H A (.lst ts) v):∃ a vs,v = .ref a∧SqL K H a vs∧AtL K H A ts vs:=by
 rcases h with h | ⟨a,rfl,vs,e,q⟩
 · simp only [At] at h
   obtain ⟨a,vs,rfl,l,q⟩:=h
   exact ⟨a,vs,rfl,l.sq,q⟩
 · exact ⟨a,vs,rfl,SqL.of e,q⟩
theorem AtR.tup {ts:List T} {v:V} (h:AtR K H A (.tup ts) v):∃ a vs,v = .ref a∧SqT K H a vs∧AtL K H A ts vs:=by
 rcases h with h | ⟨a,rfl,q⟩
 · simpa only [At] using h
 · exact q.elim
theorem AtR.dk {ks:List Key} {ts:List T} {v:V} (h:AtR K H A (.dk ks ts) v):∃ a vs,v = .ref a∧ks.length=vs.length∧H a=some (.dK (ks.zip vs))∧AtL K H A ts vs:=by
 rcases h with h | ⟨a,rfl,vs,l,e,q⟩
 · simp only [At] at h
   obtain ⟨a,vs,rfl,l,d,q⟩:=h
   exact ⟨a,vs,rfl,l,d.1,q⟩
 · exact ⟨a,vs,rfl,l,e,q⟩
theorem AtR.dt {ks:List (List Key)} {ts:List T} {v:V} (h:AtR K H A (.dt ks ts) v):∃ a vs,v = .ref a∧ks.length=vs.length∧H a=some (.dT (ks.zip vs))∧AtL K H A ts vs:=by
 rcases h with h | ⟨a,rfl,vs,l,e,q⟩
 · simp only [At] at h
   obtain ⟨a,vs,rfl,l,d,q⟩:=h
   exact ⟨a,vs,rfl,l,d.1,q⟩
 · exact ⟨a,vs,rfl,l,e,q⟩
theorem AtR.df {o:Obj} {ks:List (List Key)} {ts:List T} {v:V} (h:AtR K H A (.df o ks ts) v):∃ a vs,v = .ref a∧ks.length=vs.length∧H a=some (.frz o (.dT (ks.zip vs)))∧AtL K H A ts vs:=by
 rcases h with h | ⟨a,rfl,q⟩
 · simp only [At] at h
   obtain ⟨a,vs,rfl,l,d,q⟩:=h
   exact ⟨a,vs,rfl,l,d.1,q⟩
 · exact q.elim
theorem AtR.dz {o:Obj} {ks:List Key} {ts:List T} {v:V} (h:AtR K H A (.dz o ks ts) v):∃ a vs,v = .ref a∧ks.length=vs.length∧H a=some (.frz o (.dK (ks.zip vs)))∧AtL K H A ts vs:=by
 rcases h with h | ⟨a,rfl,q⟩
 · simp only [At] at h
   obtain ⟨a,vs,rfl,l,d,q⟩:=h
   exact ⟨a,vs,rfl,l,d.1,q⟩
 · exact q.elim
theorem AtR.dc {nh:List Key×Key→Int} {ks:List (List Key×Key)} {ts:List T} {v:V} (h:AtR K H A (.dc nh ks ts) v):∃ a xs vs,v = .ref a∧H a=some (.ext (dcIs nh a xs))∧ks=xs.map (·.1)∧(a == sysModules)=false∧(∀ x∈xs,KeyS K H x.1 x.2.1)∧Vals vs (xs.map (·.2.2))∧AtL K H A ts vs:=by
 rcases h with h | ⟨a,rfl,q⟩
 · simp only [At] at h
   obtain ⟨a,xs,vs,rfl,d,q⟩:=h
   exact ⟨a,xs,vs,rfl,d.1,q⟩
 · exact q.elim
theorem AtR.ds {nh:List Atm→Int} {ks:List (List Atm)} {v:V} (h:AtR K H A (.ds nh ks) v):∃ a xs,v = .ref a∧H a=some (.ext (dcIs nh a xs))∧ks=xs.map (·.1)∧(a == sysModules)=false∧∀ x∈xs,KeyA K H x.1 x.2.1:=by
 rcases h with h | ⟨a,rfl,q⟩
 · simp only [At] at h
   obtain ⟨a,xs,rfl,d,q⟩:=h
   exact ⟨a,xs,rfl,d.1,q⟩
 · exact q.elim
theorem AtR.clo {F:FnS} {ts:List T} {v:V} (h:AtR K H A (.clo F ts) v):∃ f vs,v = .ref f∧CloAt H A F f vs∧AtL K H A ts vs:=by
 rcases h with h | ⟨a,rfl,q⟩
 · simpa only [At] using h
 · exact q.elim
theorem AtR.kt {k:List Key} {v:V} (h:AtR K H A (.kt k) v):∃ a,v = .ref a∧H a=some (.tup (k.map kV)):=by
 rcases h with h | ⟨a,rfl,q⟩
 · simp only [At] at h
   obtain ⟨a,rfl,d⟩:=h
   exact ⟨a,rfl,d.1⟩
 · exact q.elim
theorem AtR.ins {C:Addr} {ns:List Str} {ts:List T} {v:V} (h:AtR K H A (.ins C ns ts) v):∃ a dx vs,v = .ref a∧ns.length=vs.length∧H a=some (.ins C dx (ns.zip vs))∧AtL K H A ts vs:=by
 rcases h with h | ⟨a,rfl,dx,vs,l,e,q⟩
 · simp only [At] at h
   obtain ⟨a,dx,vs,rfl,l,d,q⟩:=h
   exact ⟨a,dx,vs,rfl,l,d.1,q⟩
 · exact ⟨a,dx,vs,rfl,l,e,q⟩
theorem AtR.int {i:Int} {v:V} (h:AtR K H A (.int i) v):v = .int i:=h.elim (fun q=>by simpa only [At] using q) fun ⟨_,_,q⟩=>q.elim
theorem AtR.str {i:Str} {v:V} (h:AtR K H A (.str i) v):v = .str i:=h.elim (fun q=>by simpa only [At] using q) fun ⟨_,_,q⟩=>q.elim
theorem AtR.bl {i:Bool} {v:V} (h:AtR K H A (.bl i) v):v = .bl i:=h.elim (fun q=>by simpa only [At] using q) fun ⟨_,_,q⟩=>q.elim
theorem AtR.non {v:V} (h:AtR K H A .non v):v = .non:=h.elim (fun q=>by simpa only [At] using q) fun ⟨_,_,q⟩=>q.elim
theorem AtR.ob {a:Addr} {v:V} (h:AtR K H A (.ob a) v):v = .ref a:=h.elim (fun q=>by simpa only [At] using q) fun ⟨_,_,q⟩=>q.elim
theorem at_int {i:Int}:At K H A (.int i) (.int i):=by simp only [At]
theorem at_str {i:Str}:At K H A (.str i) (.str i):=by simp only [At]
theorem at_bl {i:Bool}:At K H A (.bl i) (.bl i):=by simp only [At]
theorem at_non:At K H A .non .non:=by simp only [At]
theorem at_tup {ts:List T} {a:Addr} {vs:List V} (h:SqT K H a vs) (q:AtL K H A ts vs):At K H A (.tup ts) (.ref a):=by simp only [At]; exact ⟨a,vs,rfl,h,q⟩
theorem RetX.env {r:Rt} {v:V} (h:RetX K Z tm O ρ σ H r v):EnvAt K Z tm O ρ σ H:=by
 cases r with
 | vw t=>exact h.1
 | fr t=>obtain ⟨a,_,I,_⟩:=h; exact I.unex
theorem RetX.at {r:Rt} {v:V} (h:RetX K Z tm O ρ σ H r v):At K H (av Z O) r.t v:=by
 cases r with
 | vw t=>exact h.2
 | fr t =>
   obtain ⟨a,rfl,I,q,_,hx⟩:=h
   refine (q.fewer sub_av_ex).at fun z=>?_
   rcases List.mem_append.mp z with z | z
   · exact (I.own a z).2.1 List.mem_cons_self
   · exact hx z
theorem EnvAt.newL (I:EnvAt K Z tm O ρ σ H) {a:Addr} {ts:List T} {vs:List V} (h:H a=none) (q:AtL K H (av Z O) ts vs):RetX K Z tm O ρ σ (upd H a (.lst vs)) (.fr (.lst ts)) (.ref a):=by
 obtain ⟨n1,n2,n3⟩:=I.fresh h
 exact ⟨a,rfl,I.new h rfl,⟨vs,upd_same,(q.more fun b hb=>(av_ex_sub b hb).imp id fun e=>by rw [e]; exact h).same (same_upd h)⟩,n3,n2⟩
end
structure Bx (p:List (T×V)→Prop):Prop where
 h:∀ tm,p tm
section
variable (X:Cx) (Z:Zc)
def lR (tm:List (T×V)) (f:FE):TE:=fun σ H Q=>∃ ρ O q,EnvAt X.K Z tm O ρ σ H∧f ρ q∧∀ t,q t→∀ v H',Same H H'→AtR X.K H' (av Z O) t v→Q v H'
def lE (tm:List (T×V)) (f:FE):TE:=fun σ H Q=>∃ ρ O q,EnvAt X.K Z tm O ρ σ H∧f ρ q∧∀ t,q t→∀ v H',Same H H'→At X.K H' (av Z O) t v→Q v H'
def lP (tm:List (T×V)) (f:FP):TE:=fun σ H Q=>∃ ρ O q,EnvAt X.K Z tm O ρ σ H∧f ρ q∧∀ r,q r→∀ v H',Same H H'→RetX X.K Z tm O ρ σ H' r v→Q v H'
def lX (tm:List (T×V)) (f:FX):TE:=fun σ H Q=>∃ ρ O q,EnvAt X.K Z tm O ρ σ H∧f ρ q∧∀ ρ' r,q ρ' r→∀ O' v H',RetX X.K Z tm O' ρ' σ H' r v→Q v H'
def lB (tm:List (T×V)) (f:FB):TT:=fun σ H Q=>∃ ρ O q,EnvAt X.K Z tm O ρ σ H∧f ρ q∧∀ b,q b→∀ H',Same H H'→Q b H'
def lA (tm:List (T×V)) (f:FA):TA:=fun σ H Q=>∃ ρ O q,EnvAt X.K Z tm O ρ σ H∧f ρ q∧∀ ts,q ts→∀ vs H',Same H H'→AtL X.K H' (av Z O) ts vs→Q vs H'
def lAR (tm:List (T×V)) (f:FA):TA:=fun σ H Q=>∃ ρ O q,EnvAt X.K Z tm O ρ σ H∧f ρ q∧∀ ts,q ts→∀ vs H',Same H H'→Paired (fun v t=>AtR X.K H' (av Z O) t v) vs ts→Q vs H'
def VR (e:Expr) (f:FE):Prop:=Bx fun tm=>PE X e (lR X Z tm f)
instance {e:Expr} {f:FE}:CoeFun (VR X Z e f) fun _=>∀ tm,PE X e (lR X Z tm f):=⟨fun h=>Bx.h h⟩
def VE (e:Expr) (f:FE):Prop:=Bx fun tm=>PE X e (lE X Z tm f)
instance {e:Expr} {f:FE}:CoeFun (VE X Z e f) fun _=>∀ tm,PE X e (lE X Z tm f):=⟨fun h=>Bx.h h⟩
def VP (e:Expr) (f:FP):Prop:=Bx fun tm=>PE X e (lP X Z tm f)
instance {e:Expr} {f:FP}:CoeFun (VP X Z e f) fun _=>∀ tm,PE X e (lP X Z tm f):=⟨fun h=>Bx.h h⟩
def VX (e:Expr) (f:FX):Prop:=Bx fun tm=>PE X e (lX X Z tm f)
instance {e:Expr} {f:FX}:CoeFun (VX X Z e f) fun _=>∀ tm,PE X e (lX X Z tm f):=⟨fun h=>Bx.h h⟩
def VC (e:Expr) (f:FB):Prop:=Bx fun tm=>PT X e (lB X Z tm f)
instance {e:Expr} {f:FB}:CoeFun (VC X Z e f) fun _=>∀ tm,PT X e (lB X Z tm f):=⟨fun h=>Bx.h h⟩
def VW (e:Expr) (f:FB):Prop:=Bx fun tm=>PW X e (lB X Z tm f)
instance {e:Expr} {f:FB}:CoeFun (VW X Z e f) fun _=>∀ tm,PW X e (lB X Z tm f):=⟨fun h=>Bx.h h⟩
def VA (es:List Expr) (f:FA):Prop:=Bx fun tm=>PA X es (lA X Z tm f)
instance {es:List Expr} {f:FA}:CoeFun (VA X Z es f) fun _=>∀ tm,PA X es (lA X Z tm f):=⟨fun h=>Bx.h h⟩
def VAR (es:List Expr) (f:FA):Prop:=Bx fun tm=>PA X es (lAR X Z tm f)
instance {es:List Expr} {f:FA}:CoeFun (VAR X Z es f) fun _=>∀ tm,PA X es (lAR X Z tm f):=⟨fun h=>Bx.h h⟩
end
theorem PE.weak {X:Cx} {e:Expr} {t t':TE} (h:PE X e t) (hw:∀ σ H Q,t' σ H Q→t σ H Q):PE X e t':=fun pins s σ H Q I q=>h pins s σ H Q I (hw _ _ _ q)
theorem PT.weak {X:Cx} {e:Expr} {t t':TT} (h:PT X e t) (hw:∀ σ H Q,t' σ H Q→t σ H Q):PT X e t':=fun pins s σ H Q I q=>h pins s σ H Q I (hw _ _ _ q)
theorem PW.weak {X:Cx} {e:Expr} {t t':TT} (h:PW X e t) (hw:∀ σ H Q,t' σ H Q→t σ H Q):PW X e t':=fun wh pins s σ H Q I q=>h wh pins s σ H Q I (hw _ _ _ q)
theorem PA.weak {X:Cx} {e:List Expr} {t t':TA} (h:PA X e t) (hw:∀ σ H Q,t' σ H Q→t σ H Q):PA X e t':=fun pos pins s σ H Q I q=>h pos pins s σ H Q I (hw _ _ _ q)
theorem PS.weak {X:Cx} {b:Stmt} {t t':TS} (h:PS X b t) (hw:∀ D σ H,t' D σ H→t D σ H):PS X b t':=fun pins s σ H D I q=>h pins s σ H D I (hw D σ H q)
theorem PSs.weak' {X:Cx} {b:List Stmt} {t t':TS} (h:PSs X b t) (hw:∀ D σ H,t' D σ H→t D σ H):PSs X b t':=fun pins s σ H D I q=>h pins s σ H D I (hw D σ H q)
section
variable {X:Cx} {Z:Zc} {e a b:Expr} {es:List Expr} {pos:Pos}
theorem VE.vr {f:FE} (h:VE X Z e f):VR X Z e f:=.mk fun tm=>PE.weak (h tm) fun σ H Q ⟨ρ,O,q,I,hf,k⟩=>⟨ρ,O,q,I,hf,fun t ht v H' s z=>k t ht v H' s (.inl z)⟩
def fT (f:FP):FE:=fun ρ Q=>f ρ fun r=>Q r.t
def fV (f:FE):FP:=fun ρ Q=>f ρ fun t=>Q (.vw t)
def fX (f:FP):FX:=fun ρ Q=>f ρ fun r=>Q ρ r
theorem VP.ve {f:FP} (h:VP X Z e f):VE X Z e (fT f):=.mk fun tm=>PE.weak (h tm) fun σ H Q ⟨ρ,O,q,I,hf,k⟩=>⟨ρ,O,fun r=>q r.t,I,hf,fun r hr v H' s z=>k r.t hr v H' s z.at⟩
theorem VP.vr {f:FP} (h:VP X Z e f):VR X Z e (fT f):=h.ve.vr
theorem VP.vx {f:FP} (h:VP X Z e f):VX X Z e (fX f):=.mk fun tm=>PE.weak (h tm) fun σ H Q ⟨ρ,O,q,I,hf,k⟩=>⟨ρ,O,fun r=>q ρ r,I,hf,fun r hr v H' s z=>k ρ r hr O v H' z⟩
theorem VE.vp {f:FE} (h:VE X Z e f):VP X Z e (fV f):=.mk fun tm=>PE.weak (h tm) fun σ H Q ⟨ρ,O,q,I,hf,k⟩=>⟨ρ,O,fun t=>q (.vw t),I,hf,fun t hr v H' s z=>k (.vw t) hr v H' s ⟨I.same s,z⟩⟩
def fVar (i:Nat):FE:=fun ρ Q=>match ρ[i]? with
 | some (some (t,false))=>Q t
 | _=>False
def fVarR (i:Nat):FE:=fun ρ Q=>match ρ[i]? with
 | some (some (t,_))=>Q t
 | _=>False
theorem ve_var (i:Nat) {x:Str} (hN:X.N[i]?=some x:=by rfl) (hv:Vis X.env.scope x:=by first | exact Or.inl rfl | exact Or.inr (Or.inl rfl) | exact Or.inr (Or.inr rfl)) (hd:(x == ("__debug__" : Str))=false:=by decide)
  (hcd:(x == ("__classdict__" : Str))=false:=by decide):VE X Z (.Name x pos) (fVar i):=.mk fun tm=>PE.weak (pe_var hN hv hd hcd) fun σ H Q ⟨ρ,O,q,I,hf,k⟩=>by
 unfold fVar at hf
 split at hf
 · rename_i t e
   obtain ⟨o,s,h1,h2,rfl,v,rfl,h3⟩:=I.sl i _ e
   exact ⟨v,h2,k t hf v H (Same.refl H) h3⟩
 · exact hf.elim
theorem vr_var (i:Nat) {x:Str} (hN:X.N[i]?=some x:=by rfl) (hv:Vis X.env.scope x:=by first | exact Or.inl rfl | exact Or.inr (Or.inl rfl) | exact Or.inr (Or.inr rfl)) (hd:(x == ("__debug__" : Str))=false:=by decide)
  (hcd:(x == ("__classdict__" : Str))=false:=by decide):VR X Z (.Name x pos) (fVarR i):=.mk fun tm=>PE.weak (pe_var hN hv hd hcd) fun σ H Q ⟨ρ,O,q,I,hf,k⟩=>by
 unfold fVarR at hf
 split at hf
 · rename_i t b e
   obtain ⟨o,s,h1,h2,h3⟩:=I.sl i _ e
   cases b with
   | false=>obtain ⟨rfl,v,rfl,h3⟩:=h3; exact ⟨v,h2,k t hf v H (Same.refl H) (.inl h3)⟩
   | true=>obtain ⟨a,rfl,rfl,h3⟩:=h3; exact ⟨_,h2,k t hf _ H (Same.refl H) (.inr ⟨a,rfl,h3⟩)⟩
 · exact hf.elim
def fC (t:T):FP:=fun _ Q=>Q (.vw t)
theorem vp_C {t:T} {v:V} (h:PE X e (tC v)) (ht:∀ H A,At X.K H A t v):VP X Z e (fC t):=.mk fun tm=>PE.weak h fun σ H Q ⟨ρ,O,q,I,hf,k⟩=>k _ hf v H (Same.refl H) ⟨I,ht _ _⟩
theorem vp_int {i j pos}:VP X Z (.Constant (.int i) j pos) (fC (.int i)):=vp_C pe_int fun _ _=>at_int
theorem vp_bl {i j pos}:VP X Z (.Constant (.bool i) j pos) (fC (.bl i)):=vp_C pe_bl fun _ _=>at_bl
theorem vp_non {j pos}:VP X Z (.Constant .none j pos) (fC .non):=vp_C pe_non fun _ _=>at_non
def OpT (K:PySem.W.Frag) (r:R2) (p:T→T→(Rt→Prop)→Prop):Prop :=
 ∀ (Z:Zc) (tm:List (T×V)) (O:List (Option Addr)) (ρ:En) (σ:St) (H:Hp) (x y:T) (v w:V) (q:Rt→Prop) (Q:VK),EnvAt K Z tm O ρ σ H→AtR K H (av Z O) x v→AtR K H (av Z O) y w→p x y q →
  (∀ t,q t→∀ u H',Same H H'→RetX K Z tm O ρ σ H' t u→Q u H')→r v w H Q
def f2 (fa fb:FE) (p:T→T→(Rt→Prop)→Prop):FP:=fun ρ Q=>fa ρ fun x=>fb ρ fun y=>p x y Q
theorem two {r:R2} {fa fb:FE} {p:T→T→(Rt→Prop)→Prop} (ho:OpT X.K r p) {tm:List (T×V)}:∀ σ H Q,lP X Z tm (f2 fa fb p) σ H Q→tOp r (lR X Z tm fa) (lR X Z tm fb) σ H Q:=fun σ H Q ⟨ρ,O,q,I,hf,k⟩ =>
 ⟨ρ,O,fun x=>fb ρ fun y=>p x y q,I,hf,fun x hx v H1 s1 a1=>⟨ρ,O,fun y=>p x y q,I.same s1,hx,fun y hy w H2 s2 a2 =>
   ho Z tm O ρ σ H2 x y v w q Q ((I.same s1).same s2) (a1.same s2) a2 hy fun t ht u H' s a=>k t ht u H' ((s1.trans s2).trans s) a⟩⟩
theorem vp_bin {op:Operator} {r:R2} {fa fb:FE} {p:T→T→(Rt→Prop)→Prop} (h:OpR X (binaryOp op) r) (ho:OpT X.K r p) (ha:VR X Z a fa) (hb:VR X Z b fb):VP X Z (.BinOp a op b pos) (f2 fa fb p) :=
 .mk fun tm=>PE.weak (pe_op h (ha tm) (hb tm)) (two ho)
theorem vp_cmp {op:CmpOp} {r:R2} {fa fb:FE} {p:T→T→(Rt→Prop)→Prop} (h:OpR X (compareOp op) r) (ho:OpT X.K r p) (ha:VR X Z a fa) (hb:VR X Z b fb) (hm:behindInMarks op b=false):VP X Z (.Compare a [op] [b] pos) (f2 fa fb p) :=
 .mk fun tm=>PE.weak (pe_cmpR h (ha tm) (hb tm) hm) (two ho)
def fTst (f:FP):FB:=fun ρ Q=>f ρ fun r=>match r with
 | .vw (.bl c)=>Q c
 | _=>False
theorem tst_ok {r:Rt} {Q:Bool→Prop} (h:match r with | .vw (.bl c)=>Q c | _=>False):∃ c,r = .vw (.bl c)∧Q c:=by
 split at h
 · exact ⟨_,rfl,h⟩
 · exact h.elim
theorem vc_cmp {op:CmpOp} {r:R2} {fa fb:FE} {p:T→T→(Rt→Prop)→Prop} (h:OpR X (compareOp op) r) (ho:OpT X.K r p) (ha:VR X Z a fa) (hb:VR X Z b fb) (hm:behindInMarks op b=false):VC X Z (.Compare a [op] [b] pos) (fTst (f2 fa fb p)) :=
 .mk fun tm=>PT.weak (pt_cmpR h (ha tm) (hb tm) hm) fun σ H Q ⟨ρ,O,q,I,hf,k⟩=>two ho σ H _ ⟨ρ,O,_,I,hf,fun t ht u H' s a=>by
  obtain ⟨c,rfl,hc⟩:=tst_ok ht
  have e:=a.2
  exact ⟨c,e,k c hc H' s⟩⟩
theorem vc_val {f:FP} (h:VP X Z e f) (he:∀ whole,isTrue e X.env whole=(do let v ← whole; standAt e.pos; holding [v] (truthy v)):=by intro _; rfl):VC X Z e (fTst f) :=
 .mk fun tm=>PT.weak (pt_val (h tm) he) fun σ H Q ⟨ρ,O,q,I,hf,k⟩=>⟨ρ,O,_,I,hf,fun t ht u H' s a=>by
  obtain ⟨c,rfl,hc⟩:=tst_ok ht
  have e:=a.2
  exact ⟨c,e,k c hc H' s⟩⟩
def fAnd (f g:FB):FB:=fun ρ Q=>f ρ fun c=>if c=true then g ρ Q else Q false
def fOr (f g:FB):FB:=fun ρ Q=>f ρ fun c=>if c=true then Q true else g ρ Q
def fNot (f:FB):FB:=fun ρ Q=>f ρ fun c=>Q (!c)
theorem VW.vc {f:FB} (h:VW X Z e f):VC X Z e f:=.mk fun tm=>PW.pt (h tm)
theorem vw_and1 {f:FB} (h:VC X Z a f):VW X Z (.BoolOp .And [a] pos) f:=.mk fun tm=>pw_and1 (h tm)
theorem vw_or1 {f:FB} (h:VC X Z a f):VW X Z (.BoolOp .Or [a] pos) f:=.mk fun tm=>pw_or1 (h tm)
theorem vw_and {rest:List Expr} {f g:FB} (h:VC X Z a f) (h':VW X Z (.BoolOp .And (b :: rest) pos) g):VW X Z (.BoolOp .And (a :: b :: rest) pos) (fAnd f g) :=
 .mk fun tm=>PW.weak (pw_and (h tm) (h' tm)) fun σ H Q ⟨ρ,O,q,I,hf,k⟩=>⟨ρ,O,_,I,hf,fun c hc H1 s1=>by
  cases c with
  | true=>rw [if_pos rfl] at hc ⊢; exact ⟨ρ,O,q,I.same s1,hc,fun b hb H' s=>k b hb H' (s1.trans s)⟩
  | false=>rw [if_neg Bool.false_ne_true] at hc ⊢; exact k false hc H1 s1⟩
theorem vw_or {rest:List Expr} {f g:FB} (h:VC X Z a f) (h':VW X Z (.BoolOp .Or (b :: rest) pos) g):VW X Z (.BoolOp .Or (a :: b :: rest) pos) (fOr f g) :=
 .mk fun tm=>PW.weak (pw_or (h tm) (h' tm)) fun σ H Q ⟨ρ,O,q,I,hf,k⟩=>⟨ρ,O,_,I,hf,fun c hc H1 s1=>by
  cases c with
  | true=>rw [if_pos rfl] at hc ⊢; exact k true hc H1 s1
  | false=>rw [if_neg Bool.false_ne_true] at hc ⊢; exact ⟨ρ,O,q,I.same s1,hc,fun b hb H' s=>k b hb H' (s1.trans s)⟩⟩
theorem vc_not {f:FB} (h:VC X Z a f):VC X Z (.UnaryOp .Not a pos) (fNot f) :=
 .mk fun tm=>PT.weak (pt_not (h tm)) fun σ H Q ⟨ρ,O,q,I,hf,k⟩=>⟨ρ,O,_,I,hf,fun c hc H1 s1=>k _ hc H1 s1⟩
def fAndV (f g:FP):FP:=fun ρ Q=>f ρ fun r=>match r with
 | .vw (.bl true)=>g ρ Q
 | .vw (.bl false)=>Q (.vw (.bl false))
 | _=>False
def fOrV (f g:FP):FP:=fun ρ Q=>f ρ fun r=>match r with
 | .vw (.bl true)=>Q (.vw (.bl true))
 | .vw (.bl false)=>g ρ Q
 | _=>False
def fNotV (f:FP):FP:=fun ρ Q=>f ρ fun r=>match r with
 | .vw (.bl c)=>Q (.vw (.bl (!c)))
 | _=>False
theorem vp_one {op} {f:FP} (h:VP X Z a f):VP X Z (.BoolOp op [a] pos) f:=.mk fun tm=>pe_one (h tm)
theorem vp_and {rest:List Expr} {f g:FP} (h:VP X Z a f) (h':VP X Z (.BoolOp .And (b :: rest) pos) g):VP X Z (.BoolOp .And (a :: b :: rest) pos) (fAndV f g) :=
 .mk fun tm=>PE.weak (pe_and (h tm) (h' tm)) fun σ H Q ⟨ρ,O,q,I,hf,k⟩=>⟨ρ,O,_,I,hf,fun r hr v H1 s1 z=>by
  split at hr
  · have e:=z.2; simp only [At] at e
    exact ⟨true,e,by rw [if_pos rfl]; exact ⟨ρ,O,q,I.same s1,hr,fun b hb v H' s=>k b hb v H' (s1.trans s)⟩⟩
  · have e:=z.2; simp only [At] at e
    exact ⟨false,e,by rw [if_neg Bool.false_ne_true]; exact k _ hr _ H1 s1 ⟨I.same s1,at_bl⟩⟩
  · exact hr.elim⟩
theorem vp_or {rest:List Expr} {f g:FP} (h:VP X Z a f) (h':VP X Z (.BoolOp .Or (b :: rest) pos) g):VP X Z (.BoolOp .Or (a :: b :: rest) pos) (fOrV f g) :=
 .mk fun tm=>PE.weak (pe_or (h tm) (h' tm)) fun σ H Q ⟨ρ,O,q,I,hf,k⟩=>⟨ρ,O,_,I,hf,fun r hr v H1 s1 z=>by
  split at hr
  · have e:=z.2; simp only [At] at e
    exact ⟨true,e,by rw [if_pos rfl]; exact k _ hr _ H1 s1 ⟨I.same s1,at_bl⟩⟩
  · have e:=z.2; simp only [At] at e
    exact ⟨false,e,by rw [if_neg Bool.false_ne_true]; exact ⟨ρ,O,q,I.same s1,hr,fun b hb v H' s=>k b hb v H' (s1.trans s)⟩⟩
  · exact hr.elim⟩
theorem vp_not {f:FP} (h:VP X Z a f):VP X Z (.UnaryOp .Not a pos) (fNotV f) :=
 .mk fun tm=>PE.weak (pe_not (h tm)) fun σ H Q ⟨ρ,O,q,I,hf,k⟩=>⟨ρ,O,_,I,hf,fun r hr v H1 s1 z=>by
  split at hr
  · have e:=z.2; simp only [At] at e
    exact ⟨_,e,k _ hr _ H1 s1 ⟨I.same s1,at_bl⟩⟩
  · exact hr.elim⟩
def fNil:FA:=fun _ Q=>Q []
def fCons (f:FE) (g:FA):FA:=fun ρ Q=>f ρ fun t=>g ρ fun ts=>Q (t :: ts)
theorem va_nil:VA X Z [] fNil:=.mk fun tm=>PA.weak pa_nil fun σ H Q ⟨ρ,O,q,I,hf,k⟩=>k _ hf [] H (Same.refl H) AtL.nil
theorem va_cons {f:FE} {g:FA} (h:VE X Z e f) (h':VA X Z es g) (hs:starEach (e :: es) X.env=(false,eval e X.env) :: starEach es X.env:=by rfl):VA X Z (e :: es) (fCons f g) :=
 .mk fun tm=>PA.weak (pa_cons (h tm) (h' tm) hs) fun σ H Q ⟨ρ,O,q,I,hf,k⟩=>⟨ρ,O,_,I,hf,fun t ht v H1 s1 a1=>⟨ρ,O,_,I.same s1,ht,fun ts hts vs H2 s2 a2=>k _ hts _ H2 (s1.trans s2) (AtL.cons (a1.same s2) a2)⟩⟩
theorem var_nil:VAR X Z [] fNil:=.mk fun tm=>PA.weak pa_nil fun σ H Q ⟨ρ,O,q,I,hf,k⟩=>k _ hf [] H (Same.refl H) .nil
theorem var_cons {f:FE} {g:FA} (h:VR X Z e f) (h':VAR X Z es g) (hs:starEach (e :: es) X.env=(false,eval e X.env) :: starEach es X.env:=by rfl):VAR X Z (e :: es) (fCons f g) :=
 .mk fun tm=>PA.weak (pa_cons (h tm) (h' tm) hs) fun σ H Q ⟨ρ,O,q,I,hf,k⟩=>⟨ρ,O,_,I,hf,fun t ht v H1 s1 a1=>⟨ρ,O,_,I.same s1,ht,fun ts hts vs H2 s2 a2=>k _ hts _ H2 (s1.trans s2) (.cons (a1.same s2) a2)⟩⟩
def fTup (g:FA):FP:=fun ρ Q=>g ρ fun ts=>ts.length≤sizeLine∧Q (.vw (.tup ts))
def fLst (g:FA):FP:=fun ρ Q=>g ρ fun ts=>ts.length≤sizeLine∧Q (.fr (.lst ts))
theorem vp_tup {g:FA} {x1} (h:VA X Z es g):VP X Z (.Tuple es x1 pos) (fTup g) :=
 .mk fun tm=>PE.weak (pe_tup (h tm)) fun σ H Q ⟨ρ,O,q,I,hf,k⟩=>⟨ρ,O,_,I,hf,fun ts hts vs H1 s1 a1=>⟨by rw [a1.length]; exact hts.1,fun p hp=>k _ hts.2 _ _ (s1.trans (same_upd hp)) ⟨(I.same s1).same (same_upd hp),at_tup (SqT.of upd_same) (a1.same (same_upd hp))⟩⟩⟩
theorem vp_lst {g:FA} (h:VA X Z es g):VP X Z (.List es pos) (fLst g) :=
 .mk fun tm=>PE.weak (pe_lst (h tm)) fun σ H Q ⟨ρ,O,q,I,hf,k⟩=>⟨ρ,O,_,I,hf,fun ts hts vs H1 s1 a1=>⟨by rw [a1.length]; exact hts.1,fun p hp=>k _ hts.2 _ _ (s1.trans (same_upd hp)) ((I.same s1).newL hp a1)⟩⟩
end
end VT
namespace VT
open PySem PySem.Spec PyProof.Rows L2
mutual
def eqT:T→T→Bool
 | .non,.non=>true
 | .bl a,.bl b=>a == b
 | .bl a,.int b=>(if a then 1 else 0) == b
 | .int a,.bl b=>a == (if b then 1 else 0)
 | .int a,.int b=>a == b
 | .str a,.str b=>a == b
 | .tup a,.tup b=>eqTs a b
 | .lst a,.lst b=>eqTs a b
 | _,_=>false
def eqTs:List T→List T→Bool
 | [],[]=>true
 | a :: as,b :: bs=>eqT a b && eqTs as bs
 | _,_=>false
end
mutual
def plainT:T→Bool
 | .tup l=>plainTs l
 | .lst l=>plainTs l
 | .dk _ _=>false
 | .dt _ _=>false
 | .df _ _ _=>false
 | .dz _ _ _=>false
 | .dc _ _ _=>false
 | .ds _ _=>false
 | .clo _ _=>false
 | .kt _=>false
 | .ins _ _ _=>false
 | .pin _ _=>false
 | .ob _=>false
 | .ty _=>false
 | _=>true
def plainTs:List T→Bool
 | []=>true
 | t :: ts=>plainT t && plainTs ts
end
mutual
def dep:T→Nat
 | .tup l=>deps l+1
 | .lst l=>deps l+1
 | _=>0
def deps:List T→Nat
 | []=>0
 | t :: ts=>max (dep t) (deps ts)
end
mutual
theorem eqT_refl:∀ (t:T),plainT t=true→eqT t t=true
 | .non,_=>by simp [eqT]
 | .bl _,_=>by simp [eqT]
 | .int _,_=>by simp [eqT]
 | .str _,_=>by simp [eqT]
 | .tup l,h=>by simp only [plainT] at h; simp only [eqT]; exact eqTs_refl l h
 | .lst l,h=>by simp only [plainT] at h; simp only [eqT]; exact eqTs_refl l h
 | .dk _ _,h=>by simp only [plainT] at h; cases h
 | .dt _ _,h=>by simp only [plainT] at h; cases h
 | .df _ _ _,h=>by simp only [plainT] at h; cases h
 | .dz _ _ _,h=>by simp only [plainT] at h; cases h
 | .dc _ _ _,h=>by simp only [plainT] at h; cases h
 | .ds _ _,h=>by simp only [plainT] at h; cases h
 | .clo _ _,h=>by simp only [plainT] at h; cases h
 | .kt _,h=>by simp only [plainT] at h; cases h
 | .ins _ _ _,h=>by simp only [plainT] at h; cases h
 | .pin _ _,h=>by simp only [plainT] at h; cases h
 | .ob _,h=>by simp only [plainT] at h; cases h
 | .ty _,h=>by simp only [plainT] at h; cases h
theorem eqTs_refl:∀ (t:List T),plainTs t=true→eqTs t t=true
 | [],_=>by simp [eqTs]
 | t :: ts,h=>by
   simp only [plainTs,Bool.and_eq_true] at h
   simp only [eqTs,Bool.and_eq_true]
   exact ⟨eqT_refl t h.1,eqTs_refl ts h.2⟩
end
theorem eqTs_len:∀ {a b:List T},eqTs a b=true→a.length=b.length
 | [],[],_=>rfl
 | a :: as,b :: bs,h=>by simp only [eqTs,Bool.and_eq_true] at h; simp [eqTs_len h.2]
 | [],_ :: _,h=>by simp [eqTs] at h
 | _ :: _,[],h=>by simp [eqTs] at h
theorem eqTs_all:∀ {a b:List T},a.length=b.length→eqTs a b=(List.range a.length).all fun j=>match a[j]?,b[j]? with
  | some x,some y=>eqT x y
  | _,_=>true
 | [],[],_=>by simp [eqTs]
 | a :: as,b :: bs,h=>by
   have ih:=eqTs_all (by simpa using h)
   simp only [eqTs]
   rw [ih,List.length_cons,List.range_succ_eq_map,List.all_cons,List.all_map]
   rfl
 | [],_ :: _,h=>by simp at h
 | _ :: _,[],h=>by simp at h
theorem eqTs_min:∀ {a b:List T},eqTs a b=((List.range (min a.length b.length)).all (fun j=>match a[j]?,b[j]? with
  | some x,some y=>eqT x y
  | _,_=>true) && a.length == b.length)
 | a,b=>by
   by_cases h:a.length=b.length
   · rw [eqTs_all h,h,Nat.min_self]; simp
   · have e:(a.length == b.length)=false:=by simpa using h
     rw [e,Bool.and_false]
     cases q:eqTs a b with
     | false=>rfl
     | true=>exact absurd (eqTs_len q) h
section
variable {X:Cx} {pins:List (Addr×Obj)} {σ:St} {H:Hp} {s:Shared} {O O':List Addr}
theorem not_both (I:Inv X pins σ H s) {a:Addr} {xs ys:List V} (h:SqL X.K H a xs) (h':SqT X.K H a ys):False:=by
 obtain ⟨its,_,p,_⟩:=I.list h
 obtain ⟨its2,_,p2,_⟩:=I.tuple h'
 obtain ⟨o,n,e,c,_⟩:=p
 obtain ⟨o2,e2,c2,_⟩:=p2
 rw [e] at e2
 cases e2
 rw [c] at c2
 exact absurd c2 (by decide)
mutual
theorem At.inj (I:Inv X pins σ H s):∀ {t u:T} {v:V},plainT t=true→plainT u=true→At X.K H O t v→At X.K H O' u v→t=u
 | .non,u,v,_,pu,h,h'=>by
   simp only [At] at h; subst h
   cases u <;> simp only [At] at h' <;> first | rfl | (simp only [plainT] at pu; cases pu; done) | (obtain ⟨_,_,e,_⟩:=h'; cases e) | (cases h'; done)
 | .bl b,u,v,_,pu,h,h'=>by
   simp only [At] at h; subst h
   cases u <;> simp only [At] at h' <;> first | (simp only [plainT] at pu; cases pu; done) | (obtain ⟨_,_,e,_⟩:=h'; cases e; done) | (cases h'; rfl) | (cases h'; done)
 | .int b,u,v,_,pu,h,h'=>by
   simp only [At] at h; subst h
   cases u <;> simp only [At] at h' <;> first | (simp only [plainT] at pu; cases pu; done) | (obtain ⟨_,_,e,_⟩:=h'; cases e; done) | (cases h'; rfl) | (cases h'; done)
 | .str b,u,v,_,pu,h,h'=>by
   simp only [At] at h; subst h
   cases u <;> simp only [At] at h' <;> first | (simp only [plainT] at pu; cases pu; done) | (obtain ⟨_,_,e,_⟩:=h'; cases e; done) | (cases h'; rfl) | (cases h'; done)
 | .dk _ _,_,_,p,_,_,_=>by simp only [plainT] at p; cases p
 | .dt _ _,_,_,p,_,_,_=>by simp only [plainT] at p; cases p
 | .df _ _ _,_,_,p,_,_,_=>by simp only [plainT] at p; cases p
 | .dz _ _ _,_,_,p,_,_,_=>by simp only [plainT] at p; cases p
 | .dc _ _ _,_,_,p,_,_,_=>by simp only [plainT] at p; cases p
 | .ds _ _,_,_,p,_,_,_=>by simp only [plainT] at p; cases p
 | .clo _ _,_,_,p,_,_,_=>by simp only [plainT] at p; cases p
 | .kt _,_,_,p,_,_,_=>by simp only [plainT] at p; cases p
 | .ins _ _ _,_,_,p,_,_,_=>by simp only [plainT] at p; cases p
 | .pin _ _,_,_,p,_,_,_=>by simp only [plainT] at p; cases p
 | .ob _,_,_,p,_,_,_=>by simp only [plainT] at p; cases p
 | .ty _,_,_,p,_,_,_=>by simp only [plainT] at p; cases p
 | .tup ts,u,v,p,pu,h,h'=>by
   simp only [At] at h
   obtain ⟨a,vs,rfl,h1,h2⟩:=h
   cases u with
   | tup us =>
     simp only [At] at h'
     obtain ⟨b,ws,e,g1,g2⟩:=h'
     cases e
     cases I.tuple_inj h1 g1
     simp only [plainT] at p pu
     rw [AtL.inj I p pu h2 g2]
   | lst us =>
     simp only [At] at h'
     obtain ⟨b,ws,e,g1,g2⟩:=h'
     cases e
     exact (not_both I g1.sq h1).elim
   | dk _ _=>simp only [plainT] at pu; cases pu
   | dt _ _=>simp only [plainT] at pu; cases pu
   | df _ _ _=>simp only [plainT] at pu; cases pu
   | dz _ _ _=>simp only [plainT] at pu; cases pu
   | dc _ _ _=>simp only [plainT] at pu; cases pu
   | ds _ _=>simp only [plainT] at pu; cases pu
   | clo _ _=>simp only [plainT] at pu; cases pu
   | kt _=>simp only [plainT] at pu; cases pu
   | ins _ _ _=>simp only [plainT] at pu; cases pu
   | pin _ _=>simp only [plainT] at pu; cases pu
   | ob _=>simp only [plainT] at pu; cases pu
   | ty _=>simp only [plainT] at pu; cases pu
   | _=>simp only [At] at h'; cases h'
 | .lst ts,u,v,p,pu,h,h'=>by
   simp only [At] at h
   obtain ⟨a,vs,rfl,h1,h2⟩:=h
   cases u with
   | lst us =>
     simp only [At] at h'
     obtain ⟨b,ws,e,g1,g2⟩:=h'
     cases e
     cases I.list_inj h1.sq g1.sq
     simp only [plainT] at p pu
     rw [AtL.inj I p pu h2 g2]
   | tup us =>
     simp only [At] at h'
     obtain ⟨b,ws,e,g1,g2⟩:=h'
     cases e
     exact (not_both I h1.sq g1).elim
   | dk _ _=>simp only [plainT] at pu; cases pu
   | dt _ _=>simp only [plainT] at pu; cases pu
   | df _ _ _=>simp only [plainT] at pu; cases pu
   | dz _ _ _=>simp only [plainT] at pu; cases pu
   | dc _ _ _=>simp only [plainT] at pu; cases pu
   | ds _ _=>simp only [plainT] at pu; cases pu
   | clo _ _=>simp only [plainT] at pu; cases pu
   | kt _=>simp only [plainT] at pu; cases pu
   | ins _ _ _=>simp only [plainT] at pu; cases pu
   | pin _ _=>simp only [plainT] at pu; cases pu
   | ob _=>simp only [plainT] at pu; cases pu
   | ty _=>simp only [plainT] at pu; cases pu
   | _=>simp only [At] at h'; cases h'
theorem AtL.inj (I:Inv X pins σ H s):∀ {ts us:List T} {vs:List V},plainTs ts=true→plainTs us=true→AtL X.K H O ts vs→AtL X.K H O' us vs→ts=us
 | [],[],_,_,_,_,_=>rfl
 | [],_ :: _,_,_,_,h,h'=>by simp only [AtL] at h h'; subst h; obtain ⟨_,_,e,_⟩:=h'; cases e
 | _ :: _,[],_,_,_,h,h'=>by simp only [AtL] at h h'; subst h'; obtain ⟨_,_,e,_⟩:=h; cases e
 | t :: ts,u :: us,_,p,pu,h,h'=>by
   simp only [AtL] at h h'
   simp only [plainTs,Bool.and_eq_true] at p pu
   obtain ⟨v,r,rfl,h1,h2⟩:=h
   obtain ⟨v',r',e,g1,g2⟩:=h'
   cases e
   rw [At.inj I p.1 pu.1 h1 g1,AtL.inj I p.2 pu.2 h2 g2]
end
theorem deps_le:∀ {ts:List T} {j:Nat} {x:T},ts[j]?=some x→dep x≤deps ts
 | [],_,_,h=>by simp at h
 | t :: ts,0,x,h=>by simp at h; subst h; simp only [deps]; lia
 | t :: ts,j+1,x,h=>by have:=deps_le (by simpa using h); simp only [deps]; lia
theorem plains_get:∀ {ts:List T} {j:Nat} {x:T},plainTs ts=true→ts[j]?=some x→plainT x=true
 | [],_,_,_,h=>by simp at h
 | t :: ts,0,x,p,h=>by simp at h; subst h; simp only [plainTs,Bool.and_eq_true] at p; exact p.1
 | t :: ts,j+1,x,p,h=>by simp only [plainTs,Bool.and_eq_true] at p; exact plains_get p.2 (by simpa using h)
theorem in1_units (A:Around):A.in1.units=A.units+1:=by
 first | rfl | simp [Around.in1,Around.units]
theorem items_eq (I:Inv X pins σ H s) {ts us:List T} {vs ws:List V} {its its2:List Value} {A:Around} (h1:AtL X.K H O ts vs) (h2:AtL X.K H O' us ws) (r1:Vals vs its) (r2:Vals ws its2)
  (key:∀ (j:Nat) x y v w u u',ts[j]?=some x→us[j]?=some y→At X.K H O x v→At X.K H O' y w→RelV v u→RelV w u'→SeqAt.EqAt A s u u' (eqT x y)) :
  ∀ (j:Nat) (g1:j < its.toArray.size) (g2:j < its2.toArray.size),SeqAt.EqAt A s its.toArray[j] its2.toArray[j] (match ts[j]?,us[j]? with
   | some x,some y=>eqT x y
   | _,_=>true):=fun j g1 g2=>by
 have l1:=h1.length
 have l2:=h2.length
 have m1:=r1.length
 have m2:=r2.length
 simp only [List.size_toArray] at g1 g2
 have e1:ts[j]?=some (ts[j]'(by lia)):=by simp
 have e2:us[j]?=some (us[j]'(by lia)):=by simp
 obtain ⟨v,a1,a2⟩:=h1.get e1
 obtain ⟨w,b1,b2⟩:=h2.get e2
 obtain ⟨u,c1,c2⟩:=r1.get a1
 obtain ⟨u',d1,d2⟩:=r2.get b1
 have f1:its.toArray[j]=u:=by rw [List.getElem?_eq_getElem (by lia)] at c1; simpa using c1
 have f2:its2.toArray[j]=u':=by rw [List.getElem?_eq_getElem (by lia)] at d1; simpa using d1
 rw [f1,f2,e1,e2]
 exact key j _ _ v w u u' e1 e2 a2 b2 c2 d2
theorem u_kind {O:List Addr} (I:Inv X pins σ H s) {u:T} {w:V} {b:Value} (pu:plainT u=true) (hw:At X.K H O u w) (r:RelV w b):(u = .non∧b = .none)∨(∃ c,u = .bl c∧b = .bool c)∨(∃ c t,u = .int c∧b = .int c t)∨(∃ c t,u = .str c∧b = .str c t)∨(∃ l p xs,u = .tup l∧b = .ref p∧s.heap.IsTuple p xs)∨∃ l p xs,u = .lst l∧b = .ref p∧s.heap.IsList p xs:=by
 cases u with
 | tup l=>simp only [At] at hw; obtain ⟨p,ws,rfl,q,_⟩:=hw; cases r; obtain ⟨_,_,p1,_⟩:=I.tuple q; exact .inr (.inr (.inr (.inr (.inl ⟨l,p,_,rfl,rfl,p1⟩))))
 | lst l=>simp only [At] at hw; obtain ⟨p,ws,rfl,q,_⟩:=hw; cases r; obtain ⟨_,_,p1,_⟩:=I.list q.sq; exact .inr (.inr (.inr (.inr (.inr ⟨l,p,_,rfl,rfl,p1.isList⟩))))
 | non=>simp only [At] at hw; subst hw; cases r; exact .inl ⟨rfl,rfl⟩
 | bl c=>simp only [At] at hw; subst hw; cases r; exact .inr (.inl ⟨c,rfl,rfl⟩)
 | int c=>simp only [At] at hw; subst hw; obtain ⟨t,rfl⟩:=r; exact .inr (.inr (.inl ⟨c,t,rfl,rfl⟩))
 | str c=>simp only [At] at hw; subst hw; obtain ⟨t,rfl⟩:=r; exact .inr (.inr (.inr (.inl ⟨c,t,rfl,rfl⟩)))
 | _=>simp only [plainT] at pu; cases pu
theorem rc_step (I:Inv X pins σ H s) {t u:T} {v w:V} {a b:Value} {A:Around} (hu':A.units < cLine) (key:∀ (x y:T) (v w:V) (a b:Value),dep x+1≤dep t→plainT x=true→plainT y=true→At X.K H O x v→At X.K H O' y w→RelV v a→RelV w b→SeqAt.EqAt A.in1 s a b (eqT x y)) (pt:plainT t=true) (pu:plainT u=true) (ht:At X.K H O t v) (hw:At X.K H O' u w) (rv:RelV v a) (rw':RelV w b):SeqAt.RcAt A s a b (eqT t u):=by
 rcases u_kind I pt ht rv with ⟨rfl,rfl⟩ | ⟨d,rfl,rfl⟩ | ⟨d,_,rfl,rfl⟩ | ⟨d,_,rfl,rfl⟩ | ⟨l,p,_,rfl,rfl,h⟩ | ⟨l,p,_,rfl,rfl,h⟩ <;> rcases u_kind I pu hw rw' with ⟨rfl,rfl⟩ | ⟨c,rfl,rfl⟩ | ⟨c,_,rfl,rfl⟩ | ⟨c,_,rfl,rfl⟩ | ⟨l',p',_,rfl,rfl,h'⟩ | ⟨l',p',_,rfl,rfl,h'⟩ <;> simp only [eqT]
 exact .none_none
 exact .none_bool _
 exact .none_int _ _
 exact .none_str _ _
 exact .none_tuple h' hu'
 exact .none_list h' hu'
 exact .bool_none _
 exact .bool_bool _ _
 exact .bool_int _ _ _
 exact .bool_str _ _ _
 exact .bool_tuple _ h' hu'
 exact .bool_list _ h' hu'
 exact .int_none _ _
 exact .int_bool _ _ _
 exact .int_int _ _ _ _
 exact .int_str _ _ _ _
 exact .int_tuple _ _ h' hu'
 exact .int_list _ _ h' hu'
 exact .str_none _ _
 exact .str_bool _ _ _
 exact .str_int _ _ _ _
 exact .str_str _ _ _ _
 exact .str_tuple _ _ h' hu'
 exact .str_list _ _ h' hu'
 exact .tuple_none h hu'
 exact .tuple_bool _ h hu'
 exact .tuple_int _ _ h hu'
 exact .tuple_str _ _ h hu'
 · simp only [plainT] at pt pu
   obtain ⟨_,vs,rfl,h1,h2⟩:=ht
   obtain ⟨_,ws,rfl,g1,g2⟩:=hw
   cases rv
   cases rw'
   have e3:=h2.length
   have e4:=g2.length
   obtain ⟨its,r1,p1,_⟩:=I.tuple h1
   obtain ⟨its2,r2,p2,_⟩:=I.tuple g1
   have e1:=r1.length
   have e2:=r2.length
   have:=SeqAt.RcAt.tuples p1 p2 hu' (items_eq I h2 g2 r1 r2 fun j x y v w u u' e1 e2 a1 a2 b1 b2=>key x y v w u u' (Nat.le_trans (Nat.succ_le_succ (deps_le e1)) (by simp only [dep]; lia)) (plains_get pt e1) (plains_get pu e2) a1 a2 b1 b2)
   simp only [List.size_toArray] at this
   rw [← e1,← e2,e3,e4] at this
   rw [eqTs_min]
   exact this
 exact .tuple_list h h' hu'
 exact .list_none h hu'
 exact .list_bool _ h hu'
 exact .list_int _ _ h hu'
 exact .list_str _ _ h hu'
 exact .list_tuple h h' hu'
 · simp only [plainT] at pt pu
   obtain ⟨_,vs,rfl,h1,h2⟩:=ht
   obtain ⟨_,ws,rfl,g1,g2⟩:=hw
   cases rv
   cases rw'
   have e3:=h2.length
   have e4:=g2.length
   obtain ⟨its,r1,p1,_⟩:=I.list h1.sq
   obtain ⟨its2,r2,p2,_⟩:=I.list g1.sq
   have e1:=r1.length
   have e2:=r2.length
   by_cases hl:l.length=l'.length
   · have:=SeqAt.RcAt.lists p1.isList p2.isList (by simp only [List.size_toArray]; lia) hu' (items_eq I h2 g2 r1 r2 fun j x y v w u u' e1 e2 a1 a2 b1 b2=>key x y v w u u' (Nat.le_trans (Nat.succ_le_succ (deps_le e1)) (by simp only [dep]; lia)) (plains_get pt e1) (plains_get pu e2) a1 a2 b1 b2)
     simp only [List.size_toArray] at this
     rw [← e1,e3] at this
     rw [eqTs_all hl]
     exact this
   · have:eqTs l l'=false:=by
      cases q:eqTs l l' with
      | false=>rfl
      | true=>exact absurd (eqTs_len q) hl
     rw [this]
     exact SeqAt.RcAt.lists_lengths p1.isList p2.isList (by simp only [List.size_toArray]; rw [bne_iff_ne]; lia) hu'
theorem eq_of_rc {A:Around} {a b:Value} {k:Bool} (h:SeqAt.RcAt A s a b k) (g:a=b→k=true) (f:∀ x t,a≠.float x t):SeqAt.EqAt A s a b k:=fun prog w E Q hq=>by
 refine wpAny_holding (wpAny_ite_split (fun e=>?_) fun _=>?_)
 · rw [g (eq_of_beq e)] at hq
   exact wpAny_bind (wpAny_rule (wpAny_pure hq))
 · cases a with
   | float x t=>exact absurd rfl (f x t)
   | _=>exact wpAny_bind (h prog w E _ (wpAny_truthy_bool hq))
theorem eqAt_T (I:Inv X pins σ H s) (n:Nat):∀ (t u:T) (v w:V) (a b:Value) (A:Around),dep t≤n→A.units+n < cLine→plainT t=true→plainT u=true→At X.K H O t v→At X.K H O' u w→RelV v a→RelV w b→SeqAt.EqAt A s a b (eqT t u):=by
 induction n using Nat.strongRecOn with
 | _ n ih =>
   intro t u v w a b A hd hu pt pu ht hw rv rw'
   refine eq_of_rc (rc_step I (by lia) (fun x y v w a b h=>?_) pt pu ht hw rv rw') (fun e=>?_) fun x t e=>?_
   · exact ih (n - 1) (by lia) x y v w a b A.in1 (by lia) (by rw [in1_units]; lia)
   · subst e
     cases rv.inj rw'
     cases At.inj I pt pu ht hw
     exact eqT_refl _ pt
   · rcases u_kind I pt ht rv with ⟨_,h⟩ | ⟨_,_,h⟩ | ⟨_,_,_,h⟩ | ⟨_,_,_,h⟩ | ⟨_,_,_,_,h,_⟩ | ⟨_,_,_,_,h,_⟩ <;> cases e.symm.trans h
end
end VT
namespace VT
open PySem PySem.Spec PyProof.Rows L2
section
variable {X:Cx} {pins:List (Addr×Obj)} {σ:St} {H:Hp} {s:Shared} {O O':List Addr}
theorem rcAt_T (I:Inv X pins σ H s) (t u:T) (v w:V) (a b:Value) (A:Around) (hd:dep t≤100) (hu:A.units+101 < cLine) (pt:plainT t=true) (pu:plainT u=true) (ht:At X.K H O t v) (hw:At X.K H O' u w) (rv:RelV v a) (rw':RelV w b):SeqAt.RcAt A s a b (eqT t u) :=
 rc_step I (by lia) (fun x y v w a b h=>eqAt_T I 100 x y v w a b A.in1 (by lia) (by rw [in1_units]; lia)) pt pu ht hw rv rw'
theorem rcNe_T (I:Inv X pins σ H s) (t u:T) (v w:V) (a b:Value) (A:Around) (hd:dep t≤100) (hu:A.units+101 < cLine) (pt:plainT t=true) (pu:plainT u=true) (ht:At X.K H O t v) (hw:At X.K H O' u w) (rv:RelV v a) (rw':RelV w b):SeqAt.RcNeAt A s a b (!eqT t u):=by
 have hu':A.units < cLine:=by lia
 have hu1:A.in1.units+100 < cLine:=by rw [in1_units]; lia
 rcases u_kind I pt ht rv with ⟨rfl,rfl⟩ | ⟨d,rfl,rfl⟩ | ⟨d,_,rfl,rfl⟩ | ⟨d,_,rfl,rfl⟩ | ⟨l,p,_,rfl,rfl,h⟩ | ⟨l,p,_,rfl,rfl,h⟩ <;> rcases u_kind I pu hw rw' with ⟨rfl,rfl⟩ | ⟨c,rfl,rfl⟩ | ⟨c,_,rfl,rfl⟩ | ⟨c,_,rfl,rfl⟩ | ⟨l',p',_,rfl,rfl,h'⟩ | ⟨l',p',_,rfl,rfl,h'⟩ <;> simp only [eqT]
 exact .none_none
 exact .none_bool _
 exact .none_int _ _
 exact .none_str _ _
 exact .none_tuple h' hu'
 exact .none_list h' hu'
 exact .bool_none _
 exact .bool_bool _ _
 exact .bool_int _ _ _
 exact .bool_str _ _ _
 exact .bool_tuple _ h' hu'
 exact .bool_list _ h' hu'
 exact .int_none _ _
 exact .int_bool _ _ _
 exact .int_int _ _ _ _
 exact .int_str _ _ _ _
 exact .int_tuple _ _ h' hu'
 exact .int_list _ _ h' hu'
 exact .str_none _ _
 exact .str_bool _ _ _
 exact .str_int _ _ _ _
 exact .str_str _ _ _ _
 exact .str_tuple _ _ h' hu'
 exact .str_list _ _ h' hu'
 exact .tuple_none h hu'
 exact .tuple_bool _ h hu'
 exact .tuple_int _ _ h hu'
 exact .tuple_str _ _ h hu'
 · simp only [plainT] at pt pu
   simp only [dep] at hd
   obtain ⟨_,vs,rfl,h1,h2⟩:=ht
   obtain ⟨_,ws,rfl,g1,g2⟩:=hw
   cases rv
   cases rw'
   have e3:=h2.length
   have e4:=g2.length
   obtain ⟨its,r1,p1,_⟩:=I.tuple h1
   obtain ⟨its2,r2,p2,_⟩:=I.tuple g1
   have e1:=r1.length
   have e2:=r2.length
   have:=SeqAt.RcNeAt.tuples p1 p2 hu' (items_eq I h2 g2 r1 r2 fun j x y v w u u' e1 e2 a1 a2 b1 b2=>eqAt_T I 100 x y v w u u' A.in1 (Nat.le_trans (deps_le e1) (by lia)) hu1 (plains_get pt e1) (plains_get pu e2) a1 a2 b1 b2)
   simp only [List.size_toArray] at this
   rw [← e1,← e2,e3,e4] at this
   rw [eqTs_min]
   exact this
 exact .tuple_list h h' hu'
 exact .list_none h hu'
 exact .list_bool _ h hu'
 exact .list_int _ _ h hu'
 exact .list_str _ _ h hu'
 exact .list_tuple h h' hu'
 · simp only [plainT] at pt pu
   simp only [dep] at hd
   obtain ⟨_,vs,rfl,h1,h2⟩:=ht
   obtain ⟨_,ws,rfl,g1,g2⟩:=hw
   cases rv
   cases rw'
   have e3:=h2.length
   have e4:=g2.length
   obtain ⟨its,r1,p1,_⟩:=I.list h1.sq
   obtain ⟨its2,r2,p2,_⟩:=I.list g1.sq
   have e1:=r1.length
   have e2:=r2.length
   by_cases hl:l.length=l'.length
   · have:=SeqAt.RcNeAt.lists p1.isList p2.isList (by simp only [List.size_toArray]; lia) hu' (items_eq I h2 g2 r1 r2 fun j x y v w u u' e1 e2 a1 a2 b1 b2=>eqAt_T I 100 x y v w u u' A.in1 (Nat.le_trans (deps_le e1) (by lia)) hu1 (plains_get pt e1) (plains_get pu e2) a1 a2 b1 b2)
     simp only [List.size_toArray] at this
     rw [← e1,e3] at this
     rw [eqTs_all hl]
     exact this
   · have:eqTs l l'=false:=by
      cases q:eqTs l l' with
      | false=>rfl
      | true=>exact absurd (eqTs_len q) hl
     rw [this]
     exact SeqAt.RcNeAt.lists_lengths p1.isList p2.isList (by simp only [List.size_toArray]; rw [bne_iff_ne]; lia) hu'
theorem AtR.bare {K:PySem.W.Frag} {H:Hp} {A:List Addr} {t:T} {v:V} (h:AtR K H A t v):At K H [] t v:=by
 rcases h with h | ⟨a,rfl,h⟩
 · exact At.fewer (fun _ z=>absurd z List.not_mem_nil) h
 · exact (Root.fewer h (fun _ z=>absurd z List.not_mem_nil)).at List.not_mem_nil
def rEqT (K:PySem.W.Frag) (neg:Bool):R2:=fun x y H Q=>∃ t u,At K H [] t x∧At K H [] u y∧plainT t=true∧plainT u=true∧dep t≤100∧Q (.bl (if neg then !eqT t u else eqT t u)) H
theorem op_eqT (hu:X.A.units+101 < cLine):OpR X (compareOp .Eq) (rEqT X.K false):=by
 intro pins s σ H x y v u Q I rx ry ⟨t,t',h1,h2,p1,p2,d,q⟩
 exact rcAt_T I t t' x y v u X.A d hu p1 p2 h1 h2 rx ry X.prog X.w X.xe _ ⟨.bl _,H,I,rfl,q⟩
theorem op_neT (hu:X.A.units+101 < cLine):OpR X (compareOp .NotEq) (rEqT X.K true):=by
 intro pins s σ H x y v u Q I rx ry ⟨t,t',h1,h2,p1,p2,d,q⟩
 exact rcNe_T I t t' x y v u X.A d hu p1 p2 h1 h2 rx ry X.prog X.w X.xe _ ⟨.bl _,H,I,rfl,q⟩
end
def pEq (x y:T) (q:Rt→Prop):Prop:=match x,y with
 | .int i,.int j=>q (.vw (.bl (decide (i=j))))
 | .str i,.str j=>q (.vw (.bl (decide (i=j))))
 | .bl i,.bl j=>q (.vw (.bl (decide (i=j))))
 | x,y=>plainT x=true∧plainT y=true∧dep x≤100∧q (.vw (.bl (eqT x y)))
def pNe (x y:T) (q:Rt→Prop):Prop:=match x,y with
 | .int i,.int j=>q (.vw (.bl (!decide (i=j))))
 | .str i,.str j=>q (.vw (.bl (!decide (i=j))))
 | .bl i,.bl j=>q (.vw (.bl (!decide (i=j))))
 | x,y=>plainT x=true∧plainT y=true∧dep x≤100∧q (.vw (.bl (!eqT x y)))
theorem pEq_gen {x y:T} {q:Rt→Prop} (h:pEq x y q):plainT x=true∧plainT y=true∧dep x≤100∧q (.vw (.bl (eqT x y))):=by
 unfold pEq at h
 split at h
 · exact ⟨rfl,rfl,Nat.zero_le _,by simp only [eqT,Bool.beq_eq_decide_eq]; exact h⟩
 · refine ⟨rfl,rfl,Nat.zero_le _,?_⟩
   have e:∀ i j:Str,(i == j)=decide (i=j):=fun i j=>by rw [Bool.eq_iff_iff]; simp
   simp only [eqT,e]; exact h
 · exact ⟨rfl,rfl,Nat.zero_le _,by simp only [eqT,Bool.beq_eq_decide_eq]; exact h⟩
 · exact h
theorem pNe_gen {x y:T} {q:Rt→Prop} (h:pNe x y q):plainT x=true∧plainT y=true∧dep x≤100∧q (.vw (.bl (!eqT x y))):=by
 unfold pNe at h
 split at h
 · exact ⟨rfl,rfl,Nat.zero_le _,by simp only [eqT,Bool.beq_eq_decide_eq]; exact h⟩
 · refine ⟨rfl,rfl,Nat.zero_le _,?_⟩
   have e:∀ i j:Str,(i == j)=decide (i=j):=fun i j=>by rw [Bool.eq_iff_iff]; simp
   simp only [eqT,e]; exact h
 · exact ⟨rfl,rfl,Nat.zero_le _,by simp only [eqT,Bool.beq_eq_decide_eq]; exact h⟩
 · exact h
theorem opT_eq {K:PySem.W.Frag}:OpT K (rEqT K false) pEq:=by
 intro Z tm O ρ σ H x y v w q Q I h1 h2 h k
 obtain ⟨p1,p2,d,h⟩:=pEq_gen h
 exact ⟨x,y,h1.bare,h2.bare,p1,p2,d,k _ h _ H (Same.refl H) ⟨I,by rw [if_neg Bool.false_ne_true]; exact at_bl⟩⟩
theorem opT_ne {K:PySem.W.Frag}:OpT K (rEqT K true) pNe:=by
 intro Z tm O ρ σ H x y v w q Q I h1 h2 h k
 obtain ⟨p1,p2,d,h⟩:=pNe_gen h
 exact ⟨x,y,h1.bare,h2.bare,p1,p2,d,k _ h _ H (Same.refl H) ⟨I,by rw [if_pos rfl]; exact at_bl⟩⟩
end VT
namespace VT
open PySem PySem.Spec PyProof.Rows L2
section
variable {K:PySem.W.Frag}
end
def pSub (x y:T) (q:Rt→Prop):Prop:=match x,y with
 | .int i,.int j=>q (.vw (.int (i - j)))
 | _,_=>False
theorem opT_Sub {K:PySem.W.Frag}:OpT K (rI0 fun i j=>.int (i - j)) pSub:=by
 intro Z tm O ρ σ H x y v w q Q I h1 h2 h k
 unfold pSub at h
 split at h
 · exact ⟨_,_,h1.int,h2.int,k _ h _ H (Same.refl H) ⟨I,at_int⟩⟩
 · exact h.elim
def pMod (x y:T) (q:Rt→Prop):Prop:=match x,y with
 | .int i,.int j=>0 < j∧q (.vw (.int (i % j)))
 | _,_=>False
theorem opT_Mod {K:PySem.W.Frag}:OpT K (rI (fun _ j=>0 < j) fun i j=>.int (i % j)) pMod:=by
 intro Z tm O ρ σ H x y v w q Q I h1 h2 h k
 unfold pMod at h
 split at h
 · exact ⟨_,_,h1.int,h2.int,h.1,k _ h.2 _ H (Same.refl H) ⟨I,at_int⟩⟩
 · exact h.elim
def pLt (x y:T) (q:Rt→Prop):Prop:=match x,y with
 | .int i,.int j=>q (.vw (.bl (decide (i < j))))
 | _,_=>False
theorem opT_Lt {K:PySem.W.Frag}:OpT K (rI0 fun i j=>.bl (decide (i < j))) pLt:=by
 intro Z tm O ρ σ H x y v w q Q I h1 h2 h k
 unfold pLt at h
 split at h
 · exact ⟨_,_,h1.int,h2.int,k _ h _ H (Same.refl H) ⟨I,at_bl⟩⟩
 · exact h.elim
def pLe (x y:T) (q:Rt→Prop):Prop:=match x,y with
 | .int i,.int j=>q (.vw (.bl (decide (i≤j))))
 | _,_=>False
theorem opT_Le {K:PySem.W.Frag}:OpT K (rI0 fun i j=>.bl (decide (i≤j))) pLe:=by
 intro Z tm O ρ σ H x y v w q Q I h1 h2 h k
 unfold pLe at h
 split at h
 · exact ⟨_,_,h1.int,h2.int,k _ h _ H (Same.refl H) ⟨I,at_bl⟩⟩
 · exact h.elim
def pGe (x y:T) (q:Rt→Prop):Prop:=match x,y with
 | .int i,.int j=>q (.vw (.bl (decide (j≤i))))
 | _,_=>False
theorem opT_Ge {K:PySem.W.Frag}:OpT K (rI0 fun i j=>.bl (decide (j≤i))) pGe:=by
 intro Z tm O ρ σ H x y v w q Q I h1 h2 h k
 unfold pGe at h
 split at h
 · exact ⟨_,_,h1.int,h2.int,k _ h _ H (Same.refl H) ⟨I,at_bl⟩⟩
 · exact h.elim
def rCatL (K:PySem.W.Frag):R2:=fun x y H Q=>∃ l b xs zs,x = .ref l∧y = .ref b∧SqL K H l xs∧SqL K H b zs∧xs.length+zs.length≤sizeLine∧∀ p,H p=none→Q (.ref p) (upd H p (.lst (xs ++ zs)))
def rCatU (K:PySem.W.Frag):R2:=fun x y H Q=>∃ a b xs ys,x = .ref a∧y = .ref b∧SqT K H a xs∧SqT K H b ys∧xs.length+ys.length≤sizeLine∧(xs=[]→Q (.ref b) H)∧(xs≠[]→ys=[]→Q (.ref a) H)∧(xs≠[]→ys≠[]→∀ p,H p=none→Q (.ref p) (upd H p (.tup (xs ++ ys))))
section
variable {X:Cx}
theorem op_catL:OpR X (binaryOp .Add) (rCatL X.K):=by
 intro pins s σ H x y v u Q I rx ry h
 obtain ⟨l,b,xs,zs,rfl,rfl,hH,hB,hz,q⟩:=h
 cases rx
 cases ry
 obtain ⟨its,r,p1,z1⟩:=I.list hH
 obtain ⟨its2,r2,p2,z2⟩:=I.list hB
 obtain ⟨⟨cls,dd,data,sl⟩,n,ho,hc,_,hd⟩:=p1
 obtain ⟨⟨cls2,dd2,data2,sl2⟩,n2,ho2,hc2,_,hd2⟩:=p2
 subst hc hd hc2 hd2
 have l1:=r.length
 have l2:=r2.length
 have e:its.toArray ++ its2.toArray=(its ++ its2).toArray:=by simp
 refine concat_meets ⟨_,ho,rfl⟩ ⟨_,ho2,rfl⟩ noFill_list_add seq_list_add PySem.F.slot_list_add PySem.F.entry_list_add (PySem.F.args_list_add_2 _ _) (list_addW l b its.toArray its2.toArray n n2 dd dd2 sl sl2 (by simp only [List.size_toArray]; lia)) ⟨ho,ho2,?_⟩
 rw [e]
 exact ⟨.ref _,_,I.lnew (r.append r2) (by rw [List.length_append]; lia),rfl,q _ I.fresh⟩
theorem op_catU:OpR X (binaryOp .Add) (rCatU X.K):=by
 intro pins s σ H x y v u Q I rx ry h
 obtain ⟨a,b,xs,ys,rfl,rfl,ha,hb,hz,q0,q1,q2⟩:=h
 cases rx
 cases ry
 obtain ⟨its,r1,p1,_⟩:=I.tuple ha
 obtain ⟨its2,r2,p2,_⟩:=I.tuple hb
 by_cases hx:xs=[]
 · obtain ⟨⟨cls,dd,data,sl⟩,ho,hc,n,hd⟩:=id p1
   obtain ⟨⟨cls2,dd2,data2,sl2⟩,ho2,hc2,n2,hd2⟩:=id p2
   subst hc hd hc2 hd2
   exact concat_meets ⟨_,ho,rfl⟩ ⟨_,ho2,rfl⟩ noFill_tuple_add seq_tuple_add PySem.F.slot_tuple_add PySem.F.entry_tuple_add (PySem.F.args_tuple_add_2 _ _)
    (tuple_addW0 a b its.toArray its2.toArray n n2 dd dd2 sl sl2 (by simp [r1.nil_iff.mpr hx])) ⟨ho,ho2,⟨.ref b,H,I,rfl,q0 hx⟩⟩
 · refine HT.cat_tup p1 p2 (fun z=>hx (r1.nil_iff.mp z)) (fun z=>⟨.ref a,H,I,rfl,q1 hx (r2.nil_iff.mp z)⟩) (fun z=>⟨.ref s.heap.objs.size,_,I.laid (fun b ob q=>Heap.get?_push_of_some _ q) (Nat.le_refl _) ?_,rfl,q2 hx (fun w=>z (r2.nil_iff.mpr w)) _ (I.hok.fresh (Nat.le_refl _))⟩) (by rw [← r1.length,← r2.length]; exact hz)
   exact ⟨by rw [List.length_append]; exact hz,_,r1.append r2,IsTup.new _ _⟩
end
def rAddU (K:PySem.W.Frag):R2:=fun x y H Q=>rI0 (fun i j=>.int (i+j)) x y H Q∨(fun x y H Q=>∃ i j,x = .str i∧y = .str j∧i.length+j.length≤sizeLine∧Q (.str (i ++ j)) H) x y H Q∨rCatL K x y H Q∨rCatU K x y H Q
theorem op_addU {X:Cx}:OpR X (binaryOp .Add) (rAddU X.K):=OpR.or op_add (OpR.or op_add_str (OpR.or op_catL op_catU))
def pAdd (x y:T) (q:Rt→Prop):Prop:=match x,y with
 | .int i,.int j=>q (.vw (.int (i+j)))
 | .str i,.str j=>i.length+j.length≤sizeLine∧q (.vw (.str (i ++ j)))
 | .lst a,.lst b=>a.length+b.length≤sizeLine∧q (.fr (.lst (a ++ b)))
 | .tup a,.tup b=>a.length+b.length≤sizeLine∧q (.vw (.tup (a ++ b)))
 | _,_=>False
theorem opT_add {K:PySem.W.Frag}:OpT K (rAddU K) pAdd:=by
 intro Z tm O ρ σ H x y v w q Q I h1 h2 h k
 unfold pAdd at h
 split at h
 · exact .inl ⟨_,_,h1.int,h2.int,k _ h _ H (Same.refl H) ⟨I,at_int⟩⟩
 · exact .inr (.inl ⟨_,_,h1.str,h2.str,h.1,k _ h.2 _ H (Same.refl H) ⟨I,at_str⟩⟩)
 · obtain ⟨a,vs,rfl,s1,a1⟩:=h1.lst
   obtain ⟨b,ws,rfl,s2,a2⟩:=h2.lst
   exact .inr (.inr (.inl ⟨a,b,vs,ws,rfl,rfl,s1,s2,by rw [a1.length,a2.length]; exact h.1,fun p hp=>k _ h.2 _ _ (same_upd hp) (I.newL hp (a1.append a2))⟩))
 · obtain ⟨a,vs,rfl,s1,a1⟩:=h1.tup
   obtain ⟨b,ws,rfl,s2,a2⟩:=h2.tup
   refine .inr (.inr (.inr ⟨a,b,vs,ws,rfl,rfl,s1,s2,by rw [a1.length,a2.length]; exact h.1,fun e=>?_,fun _ e=>?_,fun _ _ p hp=>?_⟩))
   · subst e
     have e:=a1.length
     rename_i xs ys
     have e':=List.length_eq_zero_iff.mp e.symm
     subst e'
     exact k _ h.2 _ H (Same.refl H) ⟨I,at_tup s2 a2⟩
   · subst e
     have e:=a2.length
     rename_i xs ys _
     have e':=List.length_eq_zero_iff.mp e.symm
     subst e'
     exact k _ h.2 _ H (Same.refl H) ⟨I,by rw [List.append_nil]; exact at_tup s1 a1⟩
   · exact k _ h.2 _ _ (same_upd hp) ⟨I.same (same_upd hp),at_tup (SqT.of upd_same) ((a1.append a2).same (same_upd hp))⟩
 · exact h.elim
section
variable {X:Cx} {Z:Zc} {e a b:Expr} {es:List Expr} {pos:Pos} {fa fb:FE}
theorem vp_add (ha:VR X Z a fa) (hb:VR X Z b fb):VP X Z (.BinOp a .Add b pos) (f2 fa fb pAdd):=vp_bin op_addU opT_add ha hb
theorem vp_sub (ha:VR X Z a fa) (hb:VR X Z b fb):VP X Z (.BinOp a .Sub b pos) (f2 fa fb pSub):=vp_bin op_sub opT_Sub ha hb
theorem vp_mod (ha:VR X Z a fa) (hb:VR X Z b fb):VP X Z (.BinOp a .Mod b pos) (f2 fa fb pMod):=vp_bin op_mod opT_Mod ha hb
def fNeg (f:FE):FP:=fun ρ Q=>f ρ fun x=>match x with
 | .int i=>Q (.vw (.int (-i)))
 | _=>False
theorem vp_neg (ha:VR X Z a fa):VP X Z (.UnaryOp .USub a pos) (fNeg fa):=.mk fun tm=>PE.weak (pe_un un_neg (ha tm)) fun σ H Q ⟨ρ,O,q,I,hf,k⟩=>⟨ρ,O,_,I,hf,fun t ht v H1 s1 a1=>by
 split at ht
 · exact ⟨_,a1.int,k _ ht _ H1 s1 ⟨I.same s1,at_int⟩⟩
 · exact ht.elim⟩
theorem vp_eq (hu:X.A.units+101 < cLine) (ha:VR X Z a fa) (hb:VR X Z b fb):VP X Z (.Compare a [.Eq] [b] pos) (f2 fa fb pEq):=vp_cmp (op_eqT hu) opT_eq ha hb (nomark _)
theorem vp_lt (ha:VR X Z a fa) (hb:VR X Z b fb):VP X Z (.Compare a [.Lt] [b] pos) (f2 fa fb pLt):=vp_cmp op_lt opT_Lt ha hb (nomark _)
theorem vp_le (ha:VR X Z a fa) (hb:VR X Z b fb):VP X Z (.Compare a [.LtE] [b] pos) (f2 fa fb pLe):=vp_cmp op_le opT_Le ha hb (nomark _)
theorem vp_ge (ha:VR X Z a fa) (hb:VR X Z b fb):VP X Z (.Compare a [.GtE] [b] pos) (f2 fa fb pGe):=vp_cmp op_ge opT_Ge ha hb (nomark _)
theorem vc_eq (hu:X.A.units+101 < cLine) (ha:VR X Z a fa) (hb:VR X Z b fb):VC X Z (.Compare a [.Eq] [b] pos) (fTst (f2 fa fb pEq)):=vc_cmp (op_eqT hu) opT_eq ha hb (nomark _)
theorem vc_ne (hu:X.A.units+101 < cLine) (ha:VR X Z a fa) (hb:VR X Z b fb):VC X Z (.Compare a [.NotEq] [b] pos) (fTst (f2 fa fb pNe)):=vc_cmp (op_neT hu) opT_ne ha hb (nomark _)
theorem vc_lt (ha:VR X Z a fa) (hb:VR X Z b fb):VC X Z (.Compare a [.Lt] [b] pos) (fTst (f2 fa fb pLt)):=vc_cmp op_lt opT_Lt ha hb (nomark _)
def f3 (fa fb fc:FE) (p p':T→T→(Rt→Prop)→Prop):FP:=fun ρ Q=>fa ρ fun x=>fb ρ fun y=>p x y fun r=>match r with
 | .vw (.bl true)=>fc ρ fun z=>p' y z Q
 | .vw (.bl false)=>Q (.vw (.bl false))
 | _=>False
end
theorem atI_at {K:PySem.W.Frag} {H:Hp} {A:List Addr} {ts:List T} {vs:List V} {i:Int} {t:T} (h:AtL K H A ts vs) (e:atI ts i=some t):∃ v,atI vs i=some v∧At K H A t v:=by
 unfold atI at e ⊢
 rw [h.length]
 cases q:ixN ts.length i with
 | none=>rw [q] at e; cases e
 | some j =>
   rw [q] at e
   obtain ⟨v,h1,h2⟩:=h.get e
   exact ⟨v,h1,h2⟩
def pIx (x y:T) (q:Rt→Prop):Prop:=match x,y with
 | .lst ts,.int i=>∃ t,atI ts i=some t∧q (.vw t)
 | .tup ts,.int i=>∃ t,atI ts i=some t∧q (.vw t)
 | .str z,.int i=>z.length≤sizeLine∧∃ c,atI z.cps.toList i=some c∧q (.vw (.str ⟨#[c]⟩))
 | _,_=>False
theorem opT_ix {K:PySem.W.Frag}:OpT K (rIx K) pIx:=by
 intro Z tm O ρ σ H x y v w q Q I h1 h2 h k
 unfold pIx at h
 split at h
 · obtain ⟨t,e,h⟩:=h
   obtain ⟨a,vs,rfl,s1,a1⟩:=h1.lst
   obtain ⟨u,e',a2⟩:=atI_at a1 e
   exact .inl ⟨a,vs,_,u,rfl,h2.int,s1,e',k _ h _ H (Same.refl H) ⟨I,a2⟩⟩
 · obtain ⟨t,e,h⟩:=h
   obtain ⟨a,vs,rfl,s1,a1⟩:=h1.tup
   obtain ⟨u,e',a2⟩:=atI_at a1 e
   exact .inr (.inl ⟨a,vs,_,u,rfl,h2.int,s1,e',k _ h _ H (Same.refl H) ⟨I,a2⟩⟩)
 · obtain ⟨hz,c,e,h⟩:=h
   exact .inr (.inr ⟨_,_,c,h1.str,h2.int,hz,e,k _ h _ H (Same.refl H) ⟨I,at_str⟩⟩)
 · exact h.elim
section
variable {X:Cx} {Z:Zc} {e a b:Expr} {es:List Expr} {pos:Pos} {fa fb:FE}
theorem vp_ix (ha:VR X Z a fa) (hb:VR X Z b fb) (hs:PlainIx b:=by exact fun _ _=>rfl):VP X Z (.Subscript a b pos) (f2 fa fb pIx) :=
 .mk fun tm=>PE.weak (pe_ix ix_seq (ha tm) (hb tm) hs) (two opT_ix)
end
abbrev FO:=En→(Option Int→Prop)→Prop
def lO (X:Cx) (Z:Zc) (tm:List (T×V)) (f:FO):TO:=fun σ H Q=>∃ ρ O q,EnvAt X.K Z tm O ρ σ H∧f ρ q∧∀ o,q o→∀ H',Same H H'→Q o H'
def VO (X:Cx) (Z:Zc) (e:Option Expr) (f:FO):Prop:=Bx fun tm=>PO X e (lO X Z tm f)
instance {X:Cx} {Z:Zc} {e:Option Expr} {f:FO}:CoeFun (VO X Z e f) fun _=>∀ tm,PO X e (lO X Z tm f):=⟨fun h=>Bx.h h⟩
theorem PO.weak {X:Cx} {e:Option Expr} {t t':TO} (h:PO X e t) (hw:∀ σ H Q,t' σ H Q→t σ H Q):PO X e t':=fun pins s σ H Q I q=>h pins s σ H Q I (hw _ _ _ q)
def fO0:FO:=fun _ Q=>Q none
def fO1 (f:FE):FO:=fun ρ Q=>f ρ fun t=>match t with
 | .int i=>Q (some i)
 | _=>False
def cutT {α:Type} (xs:List α) (lo hi:Option Int):List α:=(xs.drop (HT.sIx xs.length 0 lo)).take (HT.sIx xs.length xs.length hi - HT.sIx xs.length 0 lo)
theorem AtL.cut {K:PySem.W.Frag} {H:Hp} {A:List Addr} {ts:List T} {vs:List V} (h:AtL K H A ts vs) (lo hi:Option Int):AtL K H A (cutT ts lo hi) (cutV vs lo hi):=by
 unfold cutT cutV
 rw [h.length]
 exact (h.drop _).take _
def rSlU (K:PySem.W.Frag):V→Option Int→Option Int→Hp→VK→Prop:=fun x lo hi H Q=>rSlL K x lo hi H Q∨rSlT K x lo hi H Q∨rSlS x lo hi H Q
theorem sl_U {X:Cx}:SlR X (rSlU X.K):=SlR.or sl_list (SlR.or sl_tup sl_str)
def pSl (x:T) (lo hi:Option Int) (q:Rt→Prop):Prop:=match x with
 | .lst ts=>q (.fr (.lst (cutT ts lo hi)))
 | .tup ts=>¬ (HT.sIx ts.length 0 lo=0∧HT.sIx ts.length ts.length hi=ts.length)∧q (.vw (.tup (cutT ts lo hi)))
 | .str z=>z.length≤sizeLine∧q (.vw (.str (Txt.slice z lo hi)))
 | _=>False
def fSl (fa:FE) (fl fh:FO):FP:=fun ρ Q=>fa ρ fun x=>fl ρ fun lo=>fh ρ fun hi=>pSl x lo hi Q
section
variable {X:Cx} {Z:Zc} {e a b:Expr} {lo hi:Option Expr} {pos p2:Pos} {fa:FE} {fl fh:FO}
theorem vo_none:VO X Z none fO0:=.mk fun tm=>PO.weak po_none fun σ H Q ⟨ρ,O,q,I,hf,k⟩=>k _ hf H (Same.refl H)
theorem vo_some (h:VR X Z e fa):VO X Z (some e) (fO1 fa):=.mk fun tm=>PO.weak (po_some (h tm)) fun σ H Q ⟨ρ,O,q,I,hf,k⟩=>⟨ρ,O,_,I,hf,fun t ht v H' s z=>by
 split at ht
 · exact ⟨_,z.int,k _ ht H' s⟩
 · exact ht.elim⟩
theorem vp_slice (he:VR X Z e fa) (hl:VO X Z lo fl) (hh:VO X Z hi fh):VP X Z (.Subscript e (.Slice lo hi none p2) pos) (fSl fa fl fh) :=
 .mk fun tm=>PE.weak (pe_slice sl_U (he tm) (hl tm) (hh tm)) fun σ H Q ⟨ρ,O,q,I,hf,k⟩=>⟨ρ,O,_,I,hf,fun x hx v H1 s1 a1=>⟨ρ,O,_,I.same s1,hx,fun l hl H2 s2=>⟨ρ,O,_,(I.same s1).same s2,hl,fun u hu H3 s3=>by
  have J:=((I.same s1).same s2).same s3
  have a3:=(a1.same s2).same s3
  have S:=(s1.trans s2).trans s3
  unfold pSl at hu
  split at hu
  · obtain ⟨p,vs,rfl,q1,q2⟩:=a3.lst
    exact .inl ⟨p,vs,rfl,q1,fun r hr=>k _ hu _ _ (S.trans (same_upd hr)) (J.newL hr (q2.cut _ _))⟩
  · obtain ⟨p,vs,rfl,q1,q2⟩:=a3.tup
    refine .inr (.inl ⟨p,vs,rfl,q1,by rw [q2.length]; exact hu.1,fun r hr=>k _ hu.2 _ _ (S.trans (same_upd hr)) ⟨J.same (same_upd hr),at_tup (SqT.of upd_same) ((q2.cut _ _).same (same_upd hr))⟩⟩)
  · exact .inr (.inr ⟨_,a3.str,hu.1,k _ hu.2 _ H3 S ⟨J,at_str⟩⟩)
  · exact hu.elim⟩⟩⟩
end
def fCall (g:FA) (p:List T→(Rt→Prop)→Prop):FP:=fun ρ Q=>g ρ fun ts=>p ts Q
def CallT (K:PySem.W.Frag) (r:List V→Hp→VK→Prop) (p:List T→(Rt→Prop)→Prop):Prop :=
 ∀ (Z:Zc) (tm:List (T×V)) (O:List (Option Addr)) (ρ:En) (σ:St) (H:Hp) (ts:List T) (vs:List V) (q:Rt→Prop) (Q:VK),EnvAt K Z tm O ρ σ H→Paired (fun v t=>AtR K H (av Z O) t v) vs ts→p ts q →
  (∀ t,q t→∀ u H',Same H H'→RetX K Z tm O ρ σ H' t u→Q u H')→r vs H Q
section
variable {X:Cx} {Z:Zc} {e a b:Expr} {es:List Expr} {pos p:Pos} {g:FA} {x:Str} {id Ty:String} {r:List V→Hp→VK→Prop} {pp:List T→(Rt→Prop)→Prop}
theorem vp_callB (hc:CallR X (.builtin id) r) (ht:CallT X.K r pp) (hg:Gl X x) (hm:X.mg x=none) (hv:bootBuiltins x=some (.builtin id)) (ha:VAR X Z (e :: es) g) (hn:x≠"__name__":=by decide) (hdb:(x == ("__debug__" : Str))=false:=by decide)
  (hs:starEach (e :: es) X.env=(false,eval e X.env) :: starEach es X.env:=by rfl) (hpl:(backTo pos (starEach es X.env)).any (·.1)=false:=by rfl):VP X Z (.Call (.Name x p) (e :: es) [] pos) (fCall g pp) :=
 .mk fun tm=>PE.weak (pe_callB hc hg hm hv (ha tm) hn hdb hs hpl) fun σ H Q ⟨ρ,O,q,I,hf,k⟩=>⟨ρ,O,_,I,hf,fun ts hts vs H1 s1 a1=>ht Z tm O ρ σ H1 ts vs q _ (I.same s1) a1 hts fun t h u H' s z=>k t h u H' (s1.trans s) z⟩
theorem vp_callTy (hc:CallR X (.type Ty) r) (ht:CallT X.K r pp) (hg:Gl X x) (hm:X.mg x=none) (hv:bootBuiltins x=some (.type Ty)) (ha:VAR X Z (e :: es) g) (hn:x≠"__name__":=by decide) (hdb:(x == ("__debug__" : Str))=false:=by decide)
  (hs:starEach (e :: es) X.env=(false,eval e X.env) :: starEach es X.env:=by rfl) (hpl:(backTo pos (starEach es X.env)).any (·.1)=false:=by rfl):VP X Z (.Call (.Name x p) (e :: es) [] pos) (fCall g pp) :=
 .mk fun tm=>PE.weak (pe_callTy hc hg hm hv (ha tm) hn hdb hs hpl) fun σ H Q ⟨ρ,O,q,I,hf,k⟩=>⟨ρ,O,_,I,hf,fun ts hts vs H1 s1 a1=>ht Z tm O ρ σ H1 ts vs q _ (I.same s1) a1 hts fun t h u H' s z=>k t h u H' (s1.trans s) z⟩
end
def pLen (ts:List T) (q:Rt→Prop):Prop:=match ts with
 | [.lst l]=>q (.vw (.int l.length))
 | [.tup l]=>q (.vw (.int l.length))
 | [.str z]=>z.length≤sizeLine∧q (.vw (.int z.length))
 | _=>False
def rLenU (K:PySem.W.Frag):List V→Hp→VK→Prop:=fun xs H Q=>(∃ p ys,xs=[.ref p]∧(SqL K H p ys∨SqT K H p ys)∧Q (.int ys.length) H)∨(∃ z,xs=[.str z]∧z.length≤sizeLine∧Q (.int z.length) H)
theorem call_lenU {X:Cx}:CallR X (.builtin "len") (rLenU X.K):=CallR.or call_len_seq call_len_str
theorem paired1 {α β:Type} {F:α→β→Prop} {vs:List α} {t:β} (h:Paired F vs [t]):∃ v,vs=[v]∧F v t:=by
 cases h with
 | cons r q=>cases q; exact ⟨_,rfl,r⟩
theorem callT_len {K:PySem.W.Frag}:CallT K (rLenU K) pLen:=by
 intro Z tm O ρ σ H ts vs q Q I h hp k
 unfold pLen at hp
 split at hp
 · obtain ⟨v,rfl,a⟩:=paired1 h
   obtain ⟨p,ws,rfl,q1,q2⟩:=a.lst
   exact .inl ⟨p,ws,rfl,.inl q1,k _ hp _ H (Same.refl H) ⟨I,by rw [q2.length]; exact at_int⟩⟩
 · obtain ⟨v,rfl,a⟩:=paired1 h
   obtain ⟨p,ws,rfl,q1,q2⟩:=a.tup
   exact .inl ⟨p,ws,rfl,.inr q1,k _ hp _ H (Same.refl H) ⟨I,by rw [q2.length]; exact at_int⟩⟩
 · obtain ⟨v,rfl,a⟩:=paired1 h
   exact .inr ⟨_,by rw [a.str],hp.1,k _ hp.2 _ H (Same.refl H) ⟨I,at_int⟩⟩
 · exact hp.elim
def pList (ts:List T) (q:Rt→Prop):Prop:=match ts with
 | [.lst l]=>q (.fr (.lst l))
 | [.tup l]=>q (.fr (.lst l))
 | _=>False
theorem callT_list {K:PySem.W.Frag}:CallT K (fun xs H Q=>∃ p ys,xs=[.ref p]∧(SqL K H p ys∨SqT K H p ys)∧∀ l,H l=none→Q (.ref l) (upd H l (.lst ys))) pList:=by
 intro Z tm O ρ σ H ts vs q Q I h hp k
 unfold pList at hp
 split at hp
 · obtain ⟨v,rfl,a⟩:=paired1 h
   obtain ⟨p,ws,rfl,q1,q2⟩:=a.lst
   exact ⟨p,ws,rfl,.inl q1,fun l hl=>k _ hp _ _ (same_upd hl) (I.newL hl q2)⟩
 · obtain ⟨v,rfl,a⟩:=paired1 h
   obtain ⟨p,ws,rfl,q1,q2⟩:=a.tup
   exact ⟨p,ws,rfl,.inr q1,fun l hl=>k _ hp _ _ (same_upd hl) (I.newL hl q2)⟩
 · exact hp.elim
end VT
namespace VT
open PySem PySem.Spec PyProof.Rows L2
structure VEn where
 nx:En→Prop
 rt:En→Rt→Prop
 bk:En→Prop:=fun _=>False
 ct:En→Prop:=fun _=>False
structure Fin (K:PySem.W.Frag) (Z:Zc) (tm:List (T×V)) (d:VEn) (D:Ends):Prop where
 nx:∀ O ρ σ H,EnvAt K Z tm O ρ σ H→d.nx ρ→D.nx σ H
 rt:∀ O ρ σ H r v,RetX K Z tm O ρ σ H r v→d.rt ρ r→D.rt v H
 bk:∀ O ρ σ H,EnvAt K Z tm O ρ σ H→d.bk ρ→D.bk σ H
 ct:∀ O ρ σ H,EnvAt K Z tm O ρ σ H→d.ct ρ→D.ct σ H
abbrev FS:=VEn→En→Prop
def lS (X:Cx) (Z:Zc) (tm:List (T×V)) (g:FS):TS:=fun D σ H=>∃ ρ O d,EnvAt X.K Z tm O ρ σ H∧g d ρ∧Fin X.K Z tm d D
def VS (X:Cx) (Z:Zc) (st:Stmt) (g:FS):Prop:=Bx fun tm=>PS X st (lS X Z tm g)
instance {X:Cx} {Z:Zc} {st:Stmt} {g:FS}:CoeFun (VS X Z st g) fun _=>∀ tm,PS X st (lS X Z tm g):=⟨fun h=>Bx.h h⟩
def VSs (X:Cx) (Z:Zc) (st:List Stmt) (g:FS):Prop:=Bx fun tm=>PSs X st (lS X Z tm g)
instance {X:Cx} {Z:Zc} {st:List Stmt} {g:FS}:CoeFun (VSs X Z st g) fun _=>∀ tm,PSs X st (lS X Z tm g):=⟨fun h=>Bx.h h⟩
def NotPar (Z:Zc) (i:Nat):Prop:=∀ p∈Z.P,p.1≠i
section
variable {X:Cx} {Z:Zc} {st:Stmt} {rest:List Stmt} {g u:FS} {e:Expr} {pos:Pos}
def gNext:FS:=fun d ρ=>d.nx ρ
def gSeq (g u:FS):FS:=fun d ρ=>g { d with nx:=u d } ρ
theorem vss_nil:VSs X Z [] gNext:=.mk fun tm=>PSs.weak' pss_nil fun D σ H ⟨ρ,O,d,I,h,F⟩=>F.nx O ρ σ H I h
theorem vss_cons (h1:VS X Z st g) (h2:VSs X Z rest u):VSs X Z (st :: rest) (gSeq g u):=.mk fun tm=>PSs.weak' (pss_cons (h1 tm) (h2 tm)) fun D σ H ⟨ρ,O,d,I,h,F⟩ =>
 ⟨ρ,O,{ d with nx:=u d },I,h,⟨fun O' ρ' σ' H' I' h'=>⟨ρ',O',d,I',h',F⟩,F.rt,F.bk,F.ct⟩⟩
theorem vss_one (h1:VS X Z st g):VSs X Z [st] g:=.mk fun tm=>pss_one (h1 tm)
theorem VSs.weak (h:VSs X Z rest g) (hw:∀ d ρ,u d ρ→g d ρ):VSs X Z rest u:=.mk fun tm=>PSs.weak' (h tm) fun D σ H ⟨ρ,O,d,I,q,F⟩=>⟨ρ,O,d,I,hw d ρ q,F⟩
def gDrop (f:FX):FS:=fun d ρ=>f ρ fun ρ' _=>d.nx ρ'
theorem vs_expr {f:FX} (h:VX X Z e f) (hs:swapsWith e none pos.line X.env=pure false:=by rfl):VS X Z (.Expr e pos) (gDrop f):=.mk fun tm=>PS.weak (ps_expr (h tm) hs) fun D σ H ⟨ρ,O,d,I,q,F⟩ =>
 ⟨ρ,O,_,I,q,fun ρ' r hr O' v H' z=>F.nx O' ρ' σ H' z.env hr⟩
def gRet (f:FX):FS:=fun d ρ=>f ρ fun ρ' r=>d.rt ρ' r
theorem vs_ret {f:FX} (h:VX X Z e f):VS X Z (.Return (some e) pos) (gRet f):=.mk fun tm=>PS.weak (ps_ret (h tm)) fun D σ H ⟨ρ,O,d,I,q,F⟩ =>
 ⟨ρ,O,_,I,q,fun ρ' r hr O' v H' z=>F.rt O' ρ' σ H' r v z hr⟩
def gIf (c:FB) (g u:FS):FS:=fun d ρ=>c ρ fun b=>if b=true then g d ρ else u d ρ
theorem vs_if {c:Expr} {fc:FB} {a b:List Stmt} (hc:VC X Z c fc) (ha:VSs X Z a g) (hb:VSs X Z b u):VS X Z (.If c a b pos) (gIf fc g u):=.mk fun tm=>PS.weak (ps_if (hc tm) (ha tm) (hb tm)) fun D σ H ⟨ρ,O,d,I,q,F⟩ =>
 ⟨ρ,O,_,I,q,fun b hb H' s=>by
   cases b with
   | true=>rw [if_pos rfl] at hb ⊢; exact ⟨ρ,O,d,I.same s,hb,F⟩
   | false=>rw [if_neg Bool.false_ne_true] at hb ⊢; exact ⟨ρ,O,d,I.same s,hb,F⟩⟩
def gSet (i:Nat) (f:FX):FS:=fun d ρ=>f ρ fun ρ' r=>d.nx (ρ'.set i (some (r.t,false)))
def gOwn (i:Nat) (f:FX):FS:=fun d ρ=>f ρ fun ρ' r=>match r with
 | .fr t=>d.nx (ρ'.set i (some (t,true)))
 | _=>False
theorem vs_set {i:Nat} {x:Str} {f:FX} {pos':Pos} (hN:X.N.Nodup) (hi:X.N[i]?=some x) (hx:Loc X.env.scope x) (he:VX X Z e f) (hp:NotPar Z i) (hs:swapsWith e (some (.Name x pos')) pos.line X.env=pure false:=by rfl)
  (hf:X.fn x=true∨X.env.scope.names.lookup x=some .local:=by first | exact .inl rfl | exact .inr rfl | assumption):VS X Z (.Assign [.Name x pos'] e pos) (gSet i f):=.mk fun tm=>PS.weak (ps_set hN hi hx (he tm) hs hf) fun D σ H ⟨ρ,O,d,I,q,F⟩ =>
 ⟨ρ,O,_,I,q,fun ρ' r hr O' v H' z=>F.nx _ _ _ H' (z.env.put hp z.at) hr⟩
theorem vs_own {i:Nat} {x:Str} {f:FX} {pos':Pos} (hN:X.N.Nodup) (hi:X.N[i]?=some x) (hx:Loc X.env.scope x) (he:VX X Z e f) (hp:NotPar Z i) (hs:swapsWith e (some (.Name x pos')) pos.line X.env=pure false:=by rfl)
  (hf:X.fn x=true∨X.env.scope.names.lookup x=some .local:=by first | exact .inl rfl | exact .inr rfl | assumption):VS X Z (.Assign [.Name x pos'] e pos) (gOwn i f):=.mk fun tm=>PS.weak (ps_set hN hi hx (he tm) hs hf) fun D σ H ⟨ρ,O,d,I,q,F⟩ =>
 ⟨ρ,O,_,I,q,fun ρ' r hr O' v H' z=>by
   split at hr
   · obtain ⟨a,rfl,J,hR,h0,hx'⟩:=z
     exact F.nx _ _ _ H' (J.own' hp hR h0 hx') hr
   · exact hr.elim⟩
end
section
variable {X:Cx} {Z:Zc} {e a b:Expr} {es:List Expr} {pos apos cpos:Pos}
theorem EnvAt.root {K:PySem.W.Frag} {tm:List (T×V)} {O:List (Option Addr)} {ρ:En} {σ:St} {H:Hp} (I:EnvAt K Z tm O ρ σ H) {k:Nat} {t:T} (e:ρ[k]?=some (some (t,true))):∃ a,O[k]?=some (some a)∧σ[k]?=some (some (.ref a))∧Root K H (av Z O) a t:=by
 obtain ⟨o,s,h1,h2,a,rfl,rfl,h3⟩:=I.sl k _ e
 exact ⟨a,h1,h2,h3⟩
def fMeth (k:Nat) (g:FA) (p:List T→List T→(List T→T→Prop)→Prop):FX:=fun ρ Q=>match ρ[k]? with
 | some (some (.lst ts,true))=>g ρ fun vs=>p ts vs fun ts' r=>Q (ρ.set k (some (.lst ts',true))) (.vw r)
 | _=>False
def MtT (K:PySem.W.Frag) (r:V→List V→Hp→VK→Prop) (p:List T→List T→(List T→T→Prop)→Prop):Prop :=
 ∀ (H:Hp) (A:List Addr) (l:Addr) (xs:List V) (ts us:List T) (vs:List V) (q:List T→T→Prop) (Q:VK),l∈A→H l=some (.lst xs)→AtL K H A ts xs→AtL K H A us vs→p ts us q →
  (∀ ts' t,q ts' t→∀ xs' v,AtL K H A ts' xs'→At K H A t v→Q v (upd H l (.lst xs')))→r (.ref l) vs H Q
theorem meth_ok {r:V→List V→Hp→VK→Prop} {p:List T→List T→(List T→T→Prop)→Prop} (hm:MtT X.K r p) {k:Nat} {g:FA} {tm:List (T×V)} {σ:St} {H:Hp} {Q:VK} (h:lX X Z tm (fMeth k g p) σ H Q) :
  ∃ l,σ[k]?=some (some (.ref l))∧(∃ xs,SqL X.K H l xs)∧lA X Z tm g σ H fun vs H1=>r (.ref l) vs H1 Q:=by
 obtain ⟨ρ,O,q,I,hf,kk⟩:=h
 unfold fMeth at hf
 split at hf
 · rename_i ts e0
   obtain ⟨l,h1,h2,xs,h3,h4⟩:=I.root e0
   refine ⟨l,h2,⟨xs,SqL.of h3⟩,ρ,O,_,I,hf,fun us hus vs H1 s1 a1=>?_⟩
   have J:=I.same s1
   have ha:l∈av Z O:=List.mem_append_left _ (mem_roots.mpr (List.mem_of_getElem? h1))
   exact hm H1 (av Z O) l xs ts us vs _ Q ha (s1 _ _ h3) (h4.same s1) a1 hus fun ts' t ht xs' v b1 b2=>kk _ _ ht O _ _ ⟨J.wrote e0 h1 ⟨xs',upd_same,b1.wrote ha (s1 _ _ h3) rfl⟩,b2.wrote ha (s1 _ _ h3) rfl⟩
 · exact hf.elim
theorem vx_bm (k:Nat) {x name:Str} {id:String} {p:Pos} {g:FA} {r:V→List V→Hp→VK→Prop} {pp:List T→List T→(List T→T→Prop)→Prop} (slot:Slot "list" name id) (hty:typeOf (.builtin id)=pure (.type "method_descriptor")) (hm:MtR X id r) (ht:MtT X.K r pp) (ha:VA X Z (e :: es) g)
  (hN:X.N[k]?=some x:=by rfl) (hv:Vis X.env.scope x:=by first | exact Or.inl rfl | exact Or.inr (Or.inl rfl) | exact Or.inr (Or.inr rfl)) (hd:(x == ("__debug__" : Str))=false:=by decide)
  (hcd:(x == ("__classdict__" : Str))=false:=by decide) (hbase:attributeBase (.Name x p) name X.env (eval (.Name x p) X.env)=eval (.Name x p) X.env:=by rfl)
  (hfew:((backTo cpos (starEach (e :: es) X.env)).all (fun x=>!x.1) && (backToKw cpos (keywordEach [] X.env)).all (fun x=>x.1.isSome)
    && decide ((e :: es).length+([]:List Keyword).length+(if ([]:List Keyword).isEmpty then 0 else 1) < 30))=true:=by rfl)
  (hline:(apos.endLine == cpos.line)=true:=by rfl) (hs:starEach (e :: es) X.env=(false,eval e X.env) :: starEach es X.env:=by rfl) (hplain:(backTo cpos (starEach es X.env)).any (·.1)=false:=by rfl) :
  VX X Z (.Call (.Attribute (.Name x p) name apos) (e :: es) [] cpos) (fMeth k g pp):=.mk fun tm =>
 PE.weak (pe_bm PySem.F.plainAttrs_list slot hty hm (pe_var hN hv hd hcd) (ha tm) hbase hfew hline hs hplain) fun σ H Q h =>
  let ⟨l,h1,h2,h3⟩:=meth_ok ht h; ⟨.ref l,h1,.inl ⟨rfl,h2⟩,h3⟩
theorem vx_bm0 (k:Nat) {x name:Str} {id:String} {p:Pos} {r:V→List V→Hp→VK→Prop} {pp:List T→List T→(List T→T→Prop)→Prop} (slot:Slot "list" name id) (hty:typeOf (.builtin id)=pure (.type "method_descriptor")) (hm:MtR X id r) (ht:MtT X.K r pp)
  (hN:X.N[k]?=some x:=by rfl) (hv:Vis X.env.scope x:=by first | exact Or.inl rfl | exact Or.inr (Or.inl rfl) | exact Or.inr (Or.inr rfl)) (hd:(x == ("__debug__" : Str))=false:=by decide)
  (hcd:(x == ("__classdict__" : Str))=false:=by decide) (hbase:attributeBase (.Name x p) name X.env (eval (.Name x p) X.env)=eval (.Name x p) X.env:=by rfl)
  (hline:(apos.endLine == cpos.line)=true:=by rfl):VX X Z (.Call (.Attribute (.Name x p) name apos) [] [] cpos) (fMeth k fNil pp):=.mk fun tm =>
 PE.weak (pe_bm0 PySem.F.plainAttrs_list slot hty hm (pe_var hN hv hd hcd) hbase hline) fun σ H Q h=>by
  obtain ⟨l,h1,h2,ρ,O,q,I,hf,kk⟩:=meth_ok ht h
  exact ⟨.ref l,h1,.inl ⟨rfl,h2⟩,kk [] hf [] H (Same.refl H) AtL.nil⟩
def pAppend (ts us:List T) (q:List T→T→Prop):Prop:=match us with
 | [t]=>ts.length < sizeLine∧q (ts ++ [t]) .non
 | _=>False
theorem mtT_append {K:PySem.W.Frag}:MtT K rAppend pAppend:=by
 intro H A l xs ts us vs q Q hl hH h1 h2 hp k
 unfold pAppend at hp
 split at hp
 · obtain ⟨v,rfl,a⟩:=paired1 (AtL.iff.mp h2)
   exact ⟨l,xs,v,rfl,rfl,hH,by rw [h1.length]; exact hp.1,k _ _ hp.2 _ _ (h1.append (AtL.cons a AtL.nil)) at_non⟩
 · exact hp.elim
def pRev (ts us:List T) (q:List T→T→Prop):Prop:=us=[]∧q ts.reverse .non
theorem mtT_reverse {K:PySem.W.Frag}:MtT K rReverse pRev:=by
 intro H A l xs ts us vs q Q hl hH h1 h2 hp k
 obtain ⟨rfl,hp⟩:=hp
 have e:vs=[]:=by simpa only [AtL] using h2
 exact ⟨l,xs,rfl,e,hH,k _ _ hp _ _ h1.reverse at_non⟩
def pClear (ts us:List T) (q:List T→T→Prop):Prop:=us=[]∧q [] .non
theorem mtT_clear {K:PySem.W.Frag}:MtT K rClear pClear:=by
 intro H A l xs ts us vs q Q hl hH h1 h2 hp k
 obtain ⟨rfl,hp⟩:=hp
 have e:vs=[]:=by simpa only [AtL] using h2
 exact ⟨l,xs,rfl,e,hH,k _ _ hp _ _ AtL.nil at_non⟩
end
end VT
namespace VT
open PySem PySem.Spec PyProof.Rows L2
theorem EnvAt.tmps {K:PySem.W.Frag} {Z:Zc} {tm tm':List (T×V)} {O:List (Option Addr)} {ρ:En} {σ:St} {H:Hp} (I:EnvAt K Z tm O ρ σ H) (h:∀ p∈tm',At K H (av Z O) p.1 p.2):EnvAt K Z tm' O ρ σ H :=
 ⟨I.lσ,I.lO,I.sl,I.nd,I.own,I.par,I.ox,I.keep,h⟩
theorem RetX.tmps {K:PySem.W.Frag} {Z:Zc} {srcs tm:List (T×V)} {O:List (Option Addr)} {ρ:En} {σ:St} {H:Hp} {r:Rt} {v:V} (h:RetX K Z (srcs ++ tm) O ρ σ H r v):RetX K Z tm O ρ σ H r v:=by
 cases r with
 | vw t=>exact ⟨h.1.tmps fun p hp=>h.1.tmp p (List.mem_append_right _ hp),h.2⟩
 | fr t=>obtain ⟨a,e,I,q⟩:=h; exact ⟨a,e,I.tmps fun p hp=>I.tmp p (List.mem_append_right _ hp),q⟩
def Wk (K:PySem.W.Frag) (J:It) (srcs:List (T×V)) (ts:List T):Prop:=∀ H A,(∀ a∈A,H a≠none)→(∀ p∈srcs,At K H A p.1 p.2)→∀ i:Nat,
 (i < ts.length→J.go i H)∧(ts.length=i→J.stop i H)∧∀ t,ts[i]?=some t→∀ x H',J.yld i H x H'→Same H H'∧At K H' A t x
abbrev FI:=En→(List T→Prop)→Prop
def lI (X:Cx) (Z:Zc) (tm:List (T×V)) (f:FI):TI:=fun σ H R=>∃ ρ O q,EnvAt X.K Z tm O ρ σ H∧f ρ q∧∀ ts,q ts→∀ J H' srcs,Same H H'→(∀ p∈srcs,At X.K H' (av Z O) p.1 p.2)→Wk X.K J srcs ts→R J H'
def VI (X:Cx) (Z:Zc) (tg iter:Expr) (f:FI):Prop:=Bx fun tm=>PI X tg iter (lI X Z tm f)
instance {X:Cx} {Z:Zc} {tg iter:Expr} {f:FI}:CoeFun (VI X Z tg iter f) fun _=>∀ tm,PI X tg iter (lI X Z tm f):=⟨fun h=>Bx.h h⟩
theorem PI.weak {X:Cx} {tg e:Expr} {t t':TI} (h:PI X tg e t) (hw:∀ σ H R,t' σ H R→t σ H R):PI X tg e t':=fun pins s σ H R I q=>h pins s σ H R I (hw _ _ _ q)
theorem PG.weak {X:Cx} {tg:Expr} {t t':TG} (h:PG X tg t) (hw:∀ v σ H Q,t' v σ H Q→t v σ H Q):PG X tg t':=fun pins s σ H v u Q I r q=>h pins s σ H v u Q I r (hw _ _ _ _ q)
theorem PGs.weak {X:Cx} {tg:List Expr} {t t':TGs} (h:PGs X tg t) (hw:∀ v σ H Q,t' v σ H Q→t v σ H Q):PGs X tg t':=fun pins s σ H v u Q I r q=>h pins s σ H v u Q I r (hw _ _ _ _ q)
def iSeq (K:PySem.W.Frag) (tl:TE):TI:=fun σ H R=>tl σ H fun x H1=>(∃ a,x = .ref a∧(∃ xs,SqL K H1 a xs)∧R (Itl K a) H1)∨(∃ a,x = .ref a∧(∃ xs,SqT K H1 a xs)∧R (Itt K a) H1)∨∃ z,x = .str z∧R (Its z) H1
section
variable {X:Cx} {Z:Zc} {tg:Expr}
theorem pi_seq {l:Expr} {tl:TE} (hl:PE X l tl):PI X tg l (iSeq X.K tl):=by
 intro pins s σ H R I h
 refine thn (hl pins s σ H _ I h) fun v s1 ⟨x,H1,I1,r1,q1⟩=>?_
 rcases q1 with ⟨a,e,hq,q⟩ | ⟨a,e,hq,q⟩ | ⟨z,e,q⟩
 · subst e
   cases r1
   obtain ⟨xs,hq⟩:=hq
   obtain ⟨its,rv,p,hz⟩:=I1.list hq
   refine wpAny_pyIter_list p.isList ⟨s1.heap.objs.size,[s1.heap.objs.size],_,_,H1,rfl,I1.kept fun b o e=>Heap.get?_push_of_some _ e,turn_list a _,⟨_,Heap.get?_push_size _ rfl,rfl,rfl⟩,fun b hb=>?_,q⟩
   have e:b=s1.heap.objs.size:=by simpa using hb
   subst e
   exact I1.fpOk (Nat.le_refl _) (I1.hok.fresh (Nat.le_refl _))
 · subst e
   cases r1
   obtain ⟨xs,hq⟩:=hq
   obtain ⟨its,rv,p,hz⟩:=I1.tuple hq
   refine wpAny_pyIter_tuple (show s1.heap.IsTuple a its.toArray from p) ⟨s1.heap.objs.size,[s1.heap.objs.size],_,_,H1,rfl,I1.kept fun b o e=>Heap.get?_push_of_some _ e,turn_tuple a _,⟨_,Heap.get?_push_size _ rfl,rfl,rfl⟩,fun b hb=>?_,q⟩
   have e:b=s1.heap.objs.size:=by simpa using hb
   subst e
   exact I1.fpOk (Nat.le_refl _) (I1.hok.fresh (Nat.le_refl _))
 · subst e
   obtain ⟨t,rfl⟩:=r1
   refine wpAny_pyIter_strU ?_
   have I2:Inv X pins σ H1 { s1 with heap:=s1.heap.push { cls:=.type (strIterType z),data:=.fields #[.str z t,.int 0 0] } }:=I1.kept fun b o e=>Heap.get?_push_of_some _ e
   refine ⟨s1.heap.objs.size,[s1.heap.objs.size],_,_,H1,rfl,I2,turn_str z t _,⟨_,Heap.get?_push_size _ rfl,rfl,rfl⟩,fun b hb=>?_,q⟩
   have e:b=s1.heap.objs.size:=by simpa using hb
   subst e
   exact I1.fpOk (Nat.le_refl _) I1.fresh
def fSeq (f:FE):FI:=fun ρ Q=>f ρ fun t=>match t with
 | .lst ts=>Q ts
 | .tup ts=>Q ts
 | .str z=>Q (z.cps.toList.map fun c=>.str ⟨#[c]⟩)
 | _=>False
theorem wk_list {K:PySem.W.Frag} {a:Addr} {ts:List T}:Wk K (Itl K a) [(.lst ts,.ref a)] ts:=fun H A hA h i=>by
 have h:=h _ List.mem_cons_self
 obtain ⟨b,vs,e,l,q⟩:=h
 cases e
 have hl:=q.length
 refine ⟨fun hi=>⟨vs,vs[i]'(by lia),l.sq,by simp⟩,fun hi=>⟨vs,l.sq,by lia⟩,fun t ht x H' y=>?_⟩
 obtain ⟨rfl,y⟩:=y
 obtain ⟨v,e1,e2⟩:=q.get ht
 have:=y vs l.sq
 rw [e1] at this
 cases this
 exact ⟨Same.refl _,e2⟩
theorem wk_tup {K:PySem.W.Frag} {a:Addr} {ts:List T}:Wk K (Itt K a) [(.tup ts,.ref a)] ts:=fun H A hA h i=>by
 have h:=h _ List.mem_cons_self
 obtain ⟨b,vs,e,l,q⟩:=h
 cases e
 have hl:=q.length
 refine ⟨fun hi=>⟨vs,vs[i]'(by lia),l,by simp⟩,fun hi=>⟨vs,l,by lia⟩,fun t ht x H' y=>?_⟩
 obtain ⟨rfl,y⟩:=y
 obtain ⟨v,e1,e2⟩:=q.get ht
 have:=y vs l
 rw [e1] at this
 cases this
 exact ⟨Same.refl _,e2⟩
theorem wk_str {K:PySem.W.Frag} {z:Str}:Wk K (Its z) [] (z.cps.toList.map fun c=>T.str ⟨#[c]⟩):=fun H A hA h i=>by
 refine ⟨fun hi=>by rw [List.length_map,Array.length_toList] at hi; exact hi,fun hi=>by rw [List.length_map,Array.length_toList] at hi; exact Nat.le_of_eq hi,fun t ht x H' y=>?_⟩
 obtain ⟨rfl,c,hc,rfl⟩:=y
 rw [List.getElem?_map,Array.getElem?_toList,hc] at ht
 cases ht
 exact ⟨Same.refl _,at_str⟩
theorem vi_seq {l:Expr} {f:FE} (h:VE X Z l f):VI X Z tg l (fSeq f):=.mk fun tm=>PI.weak (pi_seq (h tm)) fun σ H R ⟨ρ,O,q,I,hf,k⟩=>⟨ρ,O,_,I,hf,fun t ht v H' s a=>by
 split at ht
 · have a0:=a
   obtain ⟨p,vs,rfl,l,_⟩:=a
   exact .inl ⟨p,rfl,⟨vs,l.sq⟩,k _ ht _ H' _ s (fun p hp=>by rw [List.mem_singleton.mp hp]; exact a0) wk_list⟩
 · have a0:=a
   obtain ⟨p,vs,rfl,l,_⟩:=a
   exact .inr (.inl ⟨p,rfl,⟨vs,l⟩,k _ ht _ H' _ s (fun p hp=>by rw [List.mem_singleton.mp hp]; exact a0) wk_tup⟩)
 · have e:=a
   exact .inr (.inr ⟨_,e,k _ ht _ H' [] s (fun p hp=>nomatch hp) wk_str⟩)
 · exact ht.elim⟩
abbrev FG:=T→En→(En→Prop)→Prop
abbrev FGs:=List T→En→(En→Prop)→Prop
def lG (X:Cx) (Z:Zc) (tm:List (T×V)) (is:List Nat) (h:FG):TG:=fun v σ H Q=>∃ ρ O t q,EnvAt X.K Z tm O ρ σ H∧At X.K H (av Z O) t v∧h t ρ q∧∀ ρ',q ρ'→∀ O' σ',EnvAt X.K Z tm O' ρ' σ' H→(∀ a∈roots O',a∈roots O)→(∀ (j:Nat),j∉is→O'[j]?=O[j]?)→σ'.length=σ.length→(∀ (j:Nat),j∉is→σ'[j]?=σ[j]?)→Q σ' H
def lGs (X:Cx) (Z:Zc) (tm:List (T×V)) (is:List Nat) (h:FGs):TGs:=fun vs σ H Q=>∃ ρ O ts q,EnvAt X.K Z tm O ρ σ H∧AtL X.K H (av Z O) ts vs∧h ts ρ q∧∀ ρ',q ρ'→∀ O' σ',EnvAt X.K Z tm O' ρ' σ' H→(∀ a∈roots O',a∈roots O)→(∀ (j:Nat),j∉is→O'[j]?=O[j]?)→σ'.length=σ.length→(∀ (j:Nat),j∉is→σ'[j]?=σ[j]?)→Q σ' H
def VG (X:Cx) (Z:Zc) (tg:Expr) (is:List Nat) (h:FG):Prop:=Bx fun tm=>PG X tg (lG X Z tm is h)
instance {X:Cx} {Z:Zc} {tg:Expr} {is:List Nat} {h:FG}:CoeFun (VG X Z tg is h) fun _=>∀ tm,PG X tg (lG X Z tm is h):=⟨fun h=>Bx.h h⟩
def VGs (X:Cx) (Z:Zc) (tgs:List Expr) (is:List Nat) (h:FGs):Prop:=Bx fun tm=>PGs X tgs (lGs X Z tm is h)
instance {X:Cx} {Z:Zc} {tgs:List Expr} {is:List Nat} {h:FGs}:CoeFun (VGs X Z tgs is h) fun _=>∀ tm,PGs X tgs (lGs X Z tm is h):=⟨fun h=>Bx.h h⟩
def hName (i:Nat):FG:=fun t ρ Q=>Q (ρ.set i (some (t,false)))
theorem vg_name {i:Nat} {x:Str} {pos:Pos} (hN:X.N.Nodup) (hi:X.N[i]?=some x) (hx:Loc X.env.scope x) (hp:NotPar Z i) (hf:X.fn x=true∨X.env.scope.names.lookup x=some .local:=by first | exact .inl rfl | exact .inr rfl | assumption) :
  VG X Z (.Name x pos) [i] (hName i):=.mk fun tm=>PG.weak (pg_name hN hi hx hf) fun v σ H Q ⟨ρ,O,t,q,I,a,h,k⟩ =>
 k _ h _ _ (I.put hp a) (roots_set_sub i) (fun j hj=>List.getElem?_set_ne (fun e=>hj (by simp [e]))) (by simp) fun j hj=>List.getElem?_set_ne (fun e=>hj (by simp [e]))
def hNil:FGs:=fun ts ρ Q=>ts=[]∧Q ρ
def hCons (h:FG) (hs:FGs):FGs:=fun ts ρ Q=>match ts with
 | t :: r=>h t ρ fun ρ'=>hs r ρ' Q
 | []=>False
def hTup (n:Nat) (h:FGs):FG:=fun t ρ Q=>match t with
 | .tup ts=>ts.length=n∧h ts ρ Q
 | _=>False
theorem vgs_nil:VGs X Z [] [] hNil:=.mk fun tm=>PGs.weak pgs_nil fun vs σ H Q ⟨ρ,O,ts,q,I,a,h,k⟩=>by
 obtain ⟨rfl,h⟩:=h
 have e:vs=[]:=by simpa only [AtL] using a
 exact ⟨e,k _ h O σ I (fun _ z=>z) (fun _ _=>rfl) rfl fun _ _=>rfl⟩
theorem vgs_cons {e:Expr} {es:List Expr} {is js:List Nat} {h:FG} {hs:FGs} (h1:VG X Z e is h) (h2:VGs X Z es js hs)
  (hse:(assignEach (e :: es) X.env).map (·.2)=assign e X.env :: (assignEach es X.env).map (·.2):=by rfl):VGs X Z (e :: es) (is ++ js) (hCons h hs):=.mk fun tm=>PGs.weak (pgs_cons (h1 tm) (h2 tm) hse) fun vs σ H Q ⟨ρ,O,ts,q,I,a,hh,k⟩=>by
 unfold hCons at hh
 split at hh
 · simp only [AtL] at a
   obtain ⟨v,r,rfl,a1,a2⟩:=a
   refine ⟨v,r,rfl,ρ,O,_,_,I,a1,hh,fun ρ' hρ O' σ' I' ro eo l e=>⟨ρ',O',_,q,I',a2.fewer fun b hb=>?_,hρ,fun ρ2 h2 O2 σ2 I2 ro2 eo2 l2 e2=>k ρ2 h2 O2 σ2 I2 (fun a z=>ro a (ro2 a z)) (fun j hj=>?_) (l2.trans l) fun j hj=>?_⟩⟩
   · rcases List.mem_append.mp hb with z | z
     · exact List.mem_append_left _ (ro b z)
     · exact List.mem_append_right _ z
   · rw [List.mem_append,not_or] at hj
     exact (eo2 j hj.2).trans (eo j hj.1)
   · rw [List.mem_append,not_or] at hj
     exact (e2 j hj.2).trans (e j hj.1)
 · exact hh.elim
theorem vg_tup {es:List Expr} {k:Nat} {is:List Nat} {h:FGs} {n:Nat} {pos:Pos} (hc:X.calm=true) (hh:VGs X Z es is h)
  (hn:(assignEach es X.env).length=n:=by rfl) (hst:(assignEach es X.env).findIdx? (·.1)=none:=by rfl):VG X Z (.Tuple es k pos) is (hTup n h):=.mk fun tm=>PG.weak (pg_tup hc (hh tm) hn hst) fun v σ H Q ⟨ρ,O,t,q,I,a,h',kk⟩=>by
 unfold hTup at h'
 split at h'
 · simp only [At] at a
   obtain ⟨p,vs,rfl,s,a⟩:=a
   exact ⟨p,vs,rfl,s,a.length.trans h'.1,ρ,O,_,q,I,a,h'.2,kk⟩
 · exact h'.elim
def LoopW (ts:List T) (h:FG) (g:FS):FS:=fun d ρ=>∃ Pv:Nat→En→Prop,Pv 0 ρ∧(∀ (i:Nat) t ρ',ts[i]?=some t→Pv i ρ'→h t ρ' fun ρ2=>g { nx:=Pv (i+1),ct:=Pv (i+1),bk:=d.nx,rt:=d.rt } ρ2)∧∀ ρ',Pv ts.length ρ'→d.nx ρ'
def gFor (f:FI) (h:FG) (g:FS):FS:=fun d ρ=>f ρ fun ts=>LoopW ts h g d ρ
theorem vs_for {iter:Expr} {body:List Stmt} {f:FI} {is:List Nat} {h:FG} {g:FS} {pos:Pos} (hp:PassesOwn (model X.prog X.w) X.A X.env X.xe) (hc:X.calm=true) (hi:VI X Z tg iter f) (hg:VG X Z tg is h) (hb:VSs X Z body g)
  (hs:∀ x,foldedSetIterable iter X.env x=pure x:=by intro _; rfl):VS X Z (.For tg iter body [] pos) (gFor f h g):=by
 refine .mk fun tm pins s σ H D I0 hw=>?_
 obtain ⟨ρ,O,d,I,q,F⟩:=hw
 refine ps_for (g:=fun v σ H Q=>∃ srcs,lG X Z (srcs ++ tm) is h v σ H Q) (tb:=fun D σ H=>∃ srcs,lS X Z (srcs ++ tm) g D σ H) hp hc (hi tm) (fun pins s σ H v u Q I r ⟨srcs,z⟩=>hg (srcs ++ tm) pins s σ H v u Q I r z) (fun pins s σ H D I ⟨srcs,z⟩=>hb (srcs ++ tm) pins s σ H D I z) hs pins s σ H D I0 ⟨ρ,O,_,I,q,fun ts hts J H' srcs s a wk=>?_⟩
 obtain ⟨Pv,p0,step,fin⟩:=hts
 have J0:=(I.same s).tmps fun p hp=>by
  rcases List.mem_append.mp hp with z | z
  · exact a p z
  · exact (I.same s).tmp p z
 refine ⟨fun i m σ H=>m=ts.length - i∧i≤ts.length∧∃ ρ O,EnvAt X.K Z (srcs ++ tm) O ρ σ H∧Pv i ρ,⟨ts.length,by simp,Nat.zero_le _,ρ,O,J0,p0⟩,?_⟩
 rintro i m σ1 H1 ⟨rfl,hi,ρ1,O1,I1,p1⟩
 obtain ⟨w1,w2,w3⟩:=wk H1 (av Z O1) I1.avH (fun p hp=>I1.tmp p (List.mem_append_left _ hp)) i
 have un:∀ {O:List (Option Addr)} {ρ:En} {σ:St} {H:Hp},EnvAt X.K Z (srcs ++ tm) O ρ σ H→EnvAt X.K Z tm O ρ σ H:=fun I=>I.tmps fun p hp=>I.tmp p (List.mem_append_right _ hp)
 by_cases hlt:i < ts.length
 · refine .inr ⟨w1 hlt,fun σ' H'=>∃ ρ O,EnvAt X.K Z (srcs ++ tm) O ρ σ' H'∧Pv (i+1) ρ,fun σ' H' ⟨ρ',O',I',p'⟩=>⟨ts.length - (i+1),by lia,rfl,hlt,ρ',O',I',p'⟩,fun x H2 y=>?_⟩
   have e:ts[i]?=some ts[i]:=by simp [hlt]
   obtain ⟨s2,a2⟩:=w3 ts[i] e x H2 y
   exact ⟨srcs,ρ1,O1,ts[i],_,I1.same s2,a2,step i _ ρ1 e p1,fun ρ2 h2 O2 σ2 I2 _ _ _ _=>⟨srcs,ρ2,O2,_,I2,h2,⟨fun O ρ σ H I p=>⟨ρ,O,I,p⟩,fun O ρ σ H r v z p=>F.rt O ρ σ H r v z.tmps p,fun O ρ σ H I p=>F.nx O ρ σ H (un I) p,fun O ρ σ H I p=>⟨ρ,O,I,p⟩⟩⟩⟩
 · have e:i=ts.length:=by lia
   subst e
   exact .inl ⟨w2 (rfl),F.nx O1 ρ1 σ1 H1 (un I1) (fin ρ1 p1)⟩
def gWhile (c:FB) (g:FS):FS:=fun d ρ=>∃ (Pv:Nat→En→Prop),(∃ m,Pv m ρ)∧∀ m ρ',Pv m ρ'→c ρ' fun b=>if b=true then g { nx:=fun ρ2=>∃ m',m' < m∧Pv m' ρ2,ct:=fun ρ2=>∃ m',m' < m∧Pv m' ρ2,bk:=d.nx,rt:=d.rt } ρ' else d.nx ρ'
theorem vs_while {c:Expr} {body:List Stmt} {fc:FB} {g:FS} {pos:Pos} (hp:PassesOwn (model X.prog X.w) X.A X.env X.xe) (hc:VC X Z c fc) (hb:VSs X Z body g):VS X Z (.While c body [] pos) (gWhile fc g):=.mk fun tm=>PS.weak (ps_while hp (hc tm) (hb tm)) fun D σ H ⟨ρ,O,d,I,q,F⟩=>by
 obtain ⟨Pv,⟨m0,p0⟩,step⟩:=q
 refine ⟨fun m σ H=>∃ ρ O,EnvAt X.K Z tm O ρ σ H∧Pv m ρ,⟨m0,ρ,O,I,p0⟩,?_⟩
 rintro m σ1 H1 ⟨ρ1,O1,I1,p1⟩
 refine ⟨ρ1,O1,_,I1,step m ρ1 p1,fun b hb H2 s2=>?_⟩
 cases b with
 | true =>
   exact ⟨fun σ' H'=>∃ m',m' < m∧∃ ρ O,EnvAt X.K Z tm O ρ σ' H'∧Pv m' ρ,fun σ' H' z=>z,ρ1,O1,_,I1.same s2,hb,⟨fun O ρ σ H I ⟨m',hm,p⟩=>⟨m',hm,ρ,O,I,p⟩,F.rt,F.nx,fun O ρ σ H I ⟨m',hm,p⟩=>⟨m',hm,ρ,O,I,p⟩⟩⟩
 | false =>
   exact F.nx O1 ρ1 σ1 H2 (I1.same s2) hb
end
end VT
namespace VT
open PySem PySem.Spec PyProof.Rows L2
theorem roots_app (O:List (Option Addr)) (n:Nat):roots (O ++ List.replicate n none)=roots O:=by
 unfold roots
 rw [List.filterMap_append]
 have:(List.replicate n (none:Option Addr)).filterMap id=[]:=by
  induction n with
  | zero=>rfl
  | succ n ih=>rw [List.replicate_succ,List.filterMap_cons]; exact ih
 rw [this,List.append_nil]
theorem EnvAt.longer {K:PySem.W.Frag} {Z:Zc} {tm:List (T×V)} {O:List (Option Addr)} {ρ:En} {σ:St} {H:Hp} (I:EnvAt K Z tm O ρ σ H) (n:Nat) {τ:St} (hτ:τ.length=n) :
  EnvAt K Z tm (O ++ List.replicate n none) (ρ ++ List.replicate n none) (σ ++ τ) H:=by
 have ea:av Z (O ++ List.replicate n none)=av Z O:=by unfold av; rw [roots_app]
 refine ⟨by simp [I.lσ,hτ],by simp [I.lO],fun i e h=>?_,by rw [roots_app]; exact I.nd,fun a h=>I.own a (by rw [roots_app] at h; exact h),fun p hp=>?_,I.ox,I.keep,fun p hp=>by rw [ea]; exact I.tmp p hp⟩
 · rw [ea]
   by_cases hi:i < ρ.length
   · rw [List.getElem?_append_left hi] at h
     obtain ⟨o,s,h1,h2,h3⟩:=I.sl i e h
     exact ⟨o,s,by rw [List.getElem?_append_left (by rw [I.lO]; exact hi)]; exact h1,by rw [List.getElem?_append_left (by rw [I.lσ]; exact hi)]; exact h2,h3⟩
   · rw [List.getElem?_append_right (by lia),List.getElem?_replicate] at h
     split at h
     · rename_i hl
       cases h
       refine ⟨none,τ[i - σ.length]'(by rw [I.lσ,hτ]; exact hl),?_,?_,rfl⟩
       · rw [List.getElem?_append_right (by rw [I.lO]; lia),List.getElem?_replicate,if_pos (by rw [I.lO]; exact hl)]
       · rw [List.getElem?_append_right (by rw [I.lσ]; lia)]; simp
     · cases h
 · have:=I.par p hp
   have hl:=(List.getElem?_eq_some_iff.mp this).1
   rw [List.getElem?_append_left hl]; exact this
theorem EnvAt.wroteX {K:PySem.W.Frag} {Z:Zc} {tm:List (T×V)} {O:List (Option Addr)} {ρ:En} {σ:St} {H:Hp} {a:Addr} {u o:HO} (I:EnvAt K (Z.ex a) tm O ρ σ H) (hu:H a=some u) (hm:mutO u=true) (h0:Z.H0 a=none):EnvAt K (Z.ex a) tm O ρ σ (upd H a o):=by
 have hav:a∈av (Z.ex a) O:=List.mem_append_right _ List.mem_cons_self
 have nr:∀ b∈roots O,b≠a:=fun b hb e=>(I.own b hb).2.1 (by rw [e]; exact List.mem_cons_self)
 refine ⟨I.lσ,I.lO,fun i e h=>?_,I.nd,fun b hb=>?_,I.par,fun b hb=>?_,fun b o' e n=>?_,fun p hp=>(I.tmp p hp).wrote hav hu hm⟩
 · obtain ⟨o',s,h1,h2,h3⟩:=I.sl i e h
   refine ⟨o',s,h1,h2,h3.map (fun _ _ q=>q.wrote hav hu hm) fun b t e q=>?_⟩
   subst e
   exact q.map (upd_ne (nr b (mem_roots.mpr (List.mem_of_getElem? h1)))) fun _ _ z=>z.wrote hav hu hm
 · obtain ⟨q1,q2,v,e,m⟩:=I.own b hb
   exact ⟨q1,q2,v,by rw [upd_ne (nr b hb)]; exact e,m⟩
 · by_cases e:b=a
   · subst e; rw [upd_same]; simp
   · rw [upd_ne e]; exact I.ox b hb
 · have:b≠a:=fun e'=>by
    subst e'
    have e2:Z.H0 b=some o':=e
    rw [h0] at e2; cases e2
   rw [upd_ne this]; exact I.keep b o' e n
def wComp (h:FG) (fc:FB) (fe:FE) (ρ:En):List T→(List T→Prop)→Prop
 | [],Q=>Q []
 | t :: ts,Q=>h t ρ fun ρ2=>fc ρ2 fun b=>if b=true then fe ρ2 fun u=>wComp h fc fe ρ ts fun us=>Q (u :: us) else wComp h fc fe ρ ts Q
def fComp (n:Nat) (is:List Nat) (f:FI) (h:FG) (fc:FB) (fe:FE):FP:=fun ρ Q=>(is.all fun j=>decide (ρ.length≤j))=true∧f ρ fun ts=>ts.length≤sizeLine∧wComp h fc fe (ρ ++ List.replicate n none) ts fun us=>Q (.fr (.lst us))
def VCs (X:Cx) (Z:Zc) (ifs:List Expr) (f:FB):Prop:=Bx fun tm=>PTs X ifs (lB X Z tm f)
instance {X:Cx} {Z:Zc} {ifs:List Expr} {f:FB}:CoeFun (VCs X Z ifs f) fun _=>∀ tm,PTs X ifs (lB X Z tm f):=⟨fun h=>Bx.h h⟩
def fYes:FB:=fun _ Q=>Q true
theorem PTs.weak {X:Cx} {e:List Expr} {t t':TT} (h:PTs X e t) (hw:∀ σ H Q,t' σ H Q→t σ H Q):PTs X e t':=fun pins s σ H Q I q=>h pins s σ H Q I (hw _ _ _ q)
section
variable {X:Cx} {Z:Zc}
theorem vcs_nil:VCs X Z [] fYes:=.mk fun tm=>PTs.weak pts_nil fun σ H Q ⟨ρ,O,q,I,h,k⟩=>k true h H (Same.refl H)
theorem vcs_one {c:Expr} {f:FB} (h:VC X Z c f):VCs X Z [c] f:=.mk fun tm=>pts_one (h tm)
def cG (X:Cx) (Z:Zc) (tm:List (T×V)) (is:List Nat) (h:FG):TG:=fun v σ H Q=>∃ D srcs,lG X (Z.ex D) (srcs ++ tm) is h v σ H Q
def cB (X:Cx) (Z:Zc) (tm:List (T×V)) (f:FB):TT:=fun σ H Q=>∃ D srcs,lB X (Z.ex D) (srcs ++ tm) f σ H Q
def cE (X:Cx) (Z:Zc) (tm:List (T×V)) (f:FE):TE:=fun σ H Q=>∃ D srcs,lE X (Z.ex D) (srcs ++ tm) f σ H Q
theorem comp_W {K:PySem.W.Frag} {Z:Zc} {tm srcs:List (T×V)} {n:Nat} {O:List (Option Addr)} {ρ:En} {σ:St} {H1:Hp} {D:Addr} {J:It} {ts:List T} {h:FG} {fc:FB} {fe:FE} {is:List Nat} {q:Rt→Prop} {Q:VK} (X:Cx) (hK:X.K=K)
  (I:EnvAt K Z (srcs ++ tm) O ρ σ H1) (hD:H1 D=none) (wk:Wk K J srcs ts) (hz:ts.length≤sizeLine) (his:∀ j∈is,ρ.length≤j)
  (hw:wComp h fc fe (ρ ++ List.replicate n none) ts fun us=>q (.fr (.lst us)))
  (k:∀ r,q r→∀ v H',Same H1 H'→RetX K Z tm O ρ σ H' r v→Q v H') :
  CompW J (cG X Z tm is h) (cB X Z tm fc) (cE X Z tm fe) n σ D (Q (.ref D)) H1:=by
 subst hK
 obtain ⟨n1,n2,n3⟩:=I.fresh hD
 refine ⟨fun i m acc H2=>m=ts.length - i∧i≤ts.length∧Same H1 H2∧H2 D=some (.lst acc)∧∃ us,AtL X.K H2 (av (Z.ex D) O) us acc∧acc.length≤i∧EnvAt X.K (Z.ex D) (srcs ++ tm) O ρ σ H2∧wComp h fc fe (ρ ++ List.replicate n none) (ts.drop i) fun r=>q (.fr (.lst (us ++ r))),
  ⟨ts.length,by simp,Nat.zero_le _,same_upd hD,upd_same,[],AtL.nil,Nat.zero_le _,I.new hD rfl,by simpa using hw⟩,?_⟩
 rintro i m acc H2 ⟨rfl,hi,s2,hD2,us,a2,hl,I2,w2⟩
 refine ⟨hD2,?_⟩
 obtain ⟨w1,w2',w3⟩:=wk H2 (av (Z.ex D) O) I2.avH (fun p hp=>I2.tmp p (List.mem_append_left _ hp)) i
 by_cases hlt:i < ts.length
 · refine .inr ⟨w1 hlt,by lia,fun x H3 y=>?_⟩
   have e:ts[i]?=some ts[i]:=by simp [hlt]
   obtain ⟨s3,a3⟩:=w3 ts[i] e x H3 y
   rw [List.drop_eq_getElem_cons hlt] at w2
   have I3:=(I2.same s3).longer n (τ:=List.replicate n none) (by simp)
   have ea:av (Z.ex D) (O ++ List.replicate n none)=av (Z.ex D) O:=by unfold av; rw [roots_app]
   refine ⟨D,srcs,_,_,ts[i],_,I3,by rw [ea]; exact a3,w2,fun ρ4 hρ4 O4 σ4 I4 ro4 eo4 l4 e4=>⟨⟨?_,fun j v hj=>?_⟩,D,srcs,ρ4,O4,_,I4,hρ4,fun b hb H5 s5=>?_⟩⟩
   · rw [l4]; simp
   · have hj':=(List.getElem?_eq_some_iff.mp hj).1
     have:j∉is:=fun z=>by have:=his j z; have:=I.lσ; lia
     rw [e4 j this,List.getElem?_append_left hj']; exact hj
   · have S5:=(s2.trans s3).trans s5
     have J5:=(I2.same s3).same s5
     cases b with
     | true =>
       refine iteT ⟨D,srcs,ρ4,O4,_,I4.same s5,hb,fun u hu y H6 s6 a6=>?_⟩
       have hD6:=s6 _ _ (s5 _ _ (s3 _ _ hD2))
       refine ⟨hD6,ts.length - (i+1),by lia,rfl,hlt,fun b o e=>?_,upd_same,us ++ [u],?_,by simp; lia,(J5.same s6).wroteX hD6 rfl n3,?_⟩
       · rw [upd_ne (ne_of_none e hD)]; exact s6 _ _ (S5 _ _ e)
       · have hav:D∈av (Z.ex D) O:=List.mem_append_right _ List.mem_cons_self
         have a6':At X.K H6 (av (Z.ex D) O) u y:=a6.fewer fun b hb=>by
          rcases List.mem_append.mp hb with z | z
          · obtain ⟨j,hj⟩:=List.mem_iff_getElem?.mp (mem_roots.mp z)
            have hj':=(List.getElem?_eq_some_iff.mp hj).1
            have nj:j∉is:=fun z=>by have:=his j z; have:=I.lO; lia
            have:=eo4 j nj
            rw [List.getElem?_append_left hj',hj] at this
            exact List.mem_append_left _ (mem_roots.mpr (List.mem_of_getElem? this))
          · exact List.mem_append_right _ z
         exact AtL.wrote hav hD6 rfl ((((a2.same s3).same s5).same s6).append (AtL.cons a6' AtL.nil))
       · have e2:∀ r,(us ++ [u]) ++ r=us ++ (u :: r):=fun r=>by simp
         simp only [e2]
         exact hu
     | false =>
       exact iteF ⟨ts.length - (i+1),by lia,rfl,hlt,S5,s5 _ _ (s3 _ _ hD2),us,(a2.same s3).same s5,by lia,J5,hb⟩
 · have e:i=ts.length:=by lia
   subst e
   refine .inl ⟨w2' (rfl),?_⟩
   rw [List.drop_length] at w2
   simp only [wComp,List.append_nil] at w2
   refine k _ w2 _ H2 s2 ⟨D,rfl,I2.tmps fun p hp=>I2.tmp p (List.mem_append_right _ hp),⟨acc,hD2,a2⟩,n3,n2⟩
theorem comp_ok {tm:List (T×V)} {n:Nat} {is:List Nat} {f:FI} {h:FG} {fc:FB} {fe:FE} {σ:St} {H:Hp} {Q:VK} (hq:lP X Z tm (fComp n is f h fc fe) σ H Q):tComp n (lI X Z tm f) (cG X Z tm is h) (cB X Z tm fc) (cE X Z tm fe) σ H Q:=by
 obtain ⟨ρ,O,q,I,⟨his,hf⟩,k⟩:=hq
 refine ⟨ρ,O,_,I,hf,fun ts hts J H' srcs s a wk D hD=>?_⟩
 have I':=(I.same s).tmps fun p hp=>by
  rcases List.mem_append.mp hp with z | z
  · exact a p z
  · exact (I.same s).tmp p z
 refine comp_W X rfl I' hD wk hts.1 (fun j hj=>?_) hts.2 fun r hr v H2 s2 z=>k r hr v H2 (s.trans s2) z
 have:=List.all_eq_true.mp his j hj
 exact of_decide_eq_true this
variable {ts:List Str} {sc:Scope} {elt iter tg:Expr} {ifs:List Expr} {pos:Pos} {f:FI} {h:FG} {fc:FB} {fe:FE} {is:List Nat}
theorem vp_comp (hc:X.calm=true) (hS:compOk X.N ts X.env.scope sc=true) (hi:VI X Z tg iter f) (hg:∀ D cl C fp s H,VG (compCx X ts sc cl C fp s H) (Z.ex D) tg is h) (ht:∀ D cl C fp s H,VCs (compCx X ts sc cl C fp s H) (Z.ex D) ifs fc)
  (he:∀ D cl C fp s H,VE (compCx X ts sc cl C fp s H) (Z.ex D) elt fe) (hs:∀ x,foldedSetIterable iter X.env x=pure x:=by intro _; rfl):VP X Z (.ListComp elt [⟨tg,iter,ifs,0⟩] sc pos) (fComp ts.length is f h fc fe):=.mk fun tm =>
 PE.weak (pe_comp hc hS (hi tm) (fun cl C fp s H pins s' σ H' v u Q I r ⟨D,srcs,z⟩=>hg D cl C fp s H (srcs ++ tm) pins s' σ H' v u Q I r z) (fun cl C fp s H pins s' σ H' Q I ⟨D,srcs,z⟩=>ht D cl C fp s H (srcs ++ tm) pins s' σ H' Q I z)
  (fun cl C fp s H pins s' σ H' Q I ⟨D,srcs,z⟩=>he D cl C fp s H (srcs ++ tm) pins s' σ H' Q I z) hs) fun σ H Q hq=>comp_ok hq
theorem vs_comp_raw {i:Nat} {y:Str} {py spos:Pos} (hN:X.N.Nodup) (hy:X.N[i]?=some y) (hx:Loc X.env.scope y) (hc:X.calm=true) (hS:compOk X.N ts X.env.scope sc=true) (hi:VI X Z tg iter f) (hg:∀ D cl C fp s H,VG (compCx X ts sc cl C fp s H) (Z.ex D) tg is h)
  (ht:∀ D cl C fp s H,VCs (compCx X ts sc cl C fp s H) (Z.ex D) ifs fc) (he:∀ D cl C fp s H,VE (compCx X ts sc cl C fp s H) (Z.ex D) elt fe)
  (hsw:swapsWith (.ListComp elt [⟨tg,iter,ifs,0⟩] sc pos) (some (.Name y py)) spos.line X.env=pure true)
  (hs:∀ x,foldedSetIterable iter X.env x=pure x) (hf:X.fn y=true∨X.env.scope.names.lookup y=some .local) (tm:List (T×V)) :
  PS X (.Assign [.Name y py] (.ListComp elt [⟨tg,iter,ifs,0⟩] sc pos) spos) (tAsg (lP X Z tm (fComp ts.length is f h fc fe)) (gName i)) :=
 PS.weak (ps_comp hN hy hx hc hS (hi tm) (fun cl C fp s H pins s' σ H' v u Q I r ⟨D,srcs,z⟩=>hg D cl C fp s H (srcs ++ tm) pins s' σ H' v u Q I r z) (fun cl C fp s H pins s' σ H' Q I ⟨D,srcs,z⟩=>ht D cl C fp s H (srcs ++ tm) pins s' σ H' Q I z)
  (fun cl C fp s H pins s' σ H' Q I ⟨D,srcs,z⟩=>he D cl C fp s H (srcs ++ tm) pins s' σ H' Q I z) hsw hs hf) fun D σ H hq=>comp_ok hq
theorem vs_comp {i:Nat} {y:Str} {py spos:Pos} (hN:X.N.Nodup) (hy:X.N[i]?=some y) (hx:Loc X.env.scope y) (hc:X.calm=true) (hS:compOk X.N ts X.env.scope sc=true) (hi:VI X Z tg iter f) (hg:∀ D cl C fp s H,VG (compCx X ts sc cl C fp s H) (Z.ex D) tg is h)
  (ht:∀ D cl C fp s H,VCs (compCx X ts sc cl C fp s H) (Z.ex D) ifs fc) (he:∀ D cl C fp s H,VE (compCx X ts sc cl C fp s H) (Z.ex D) elt fe) (hp:NotPar Z i)
  (hsw:swapsWith (.ListComp elt [⟨tg,iter,ifs,0⟩] sc pos) (some (.Name y py)) spos.line X.env=pure true:=by rfl)
  (hs:∀ x,foldedSetIterable iter X.env x=pure x:=by intro _; rfl) (hf:X.fn y=true∨X.env.scope.names.lookup y=some .local:=by first | exact .inl rfl | exact .inr rfl | assumption) :
  VS X Z (.Assign [.Name y py] (.ListComp elt [⟨tg,iter,ifs,0⟩] sc pos) spos) (gSet i (fX (fComp ts.length is f h fc fe))):=.mk fun tm =>
 PS.weak (vs_comp_raw hN hy hx hc hS hi hg ht he hsw hs hf tm) fun D σ H ⟨ρ,O,d,I,q,F⟩=>⟨ρ,O,_,I,q,fun r hr v H' s z=>F.nx _ _ _ H' (z.env.put hp z.at) hr⟩
end
end VT
namespace VT
open PySem PySem.Spec PyProof.Rows L2
def ArgsAt (K:PySem.W.Frag) (H:Hp) (A:List Addr):List Bool→List Addr→List T→List V→Prop
 | [],as,ts,vs=>as=[]∧ts=[]∧vs=[]
 | false :: fs,as,ts,vs=>∃ t ts' v vs',ts=t :: ts'∧vs=v :: vs'∧At K H A t v∧ArgsAt K H A fs as ts' vs'
 | true :: fs,as,ts,vs=>∃ a as' t ts' vs',as=a :: as'∧ts=t :: ts'∧vs = .ref a :: vs'∧Root K H A a t∧ArgsAt K H A fs as' ts' vs'
def RtAt (K:PySem.W.Frag) (H:Hp) (as Ox:List Addr) (H':Hp) (us:List T):Rt→V→Prop
 | .vw t,v=>At K H' (as ++ Ox) t v∧Paired (fun a u=>Root K H' (as ++ Ox) a u) as us
 | .fr t,v=>∃ b,v = .ref b∧H b=none∧b∉as∧Root K H' (b :: (as ++ Ox)) b t∧Paired (fun a u=>Root K H' (b :: (as ++ Ox)) a u) as us
abbrev GT:=List T→(List T→Rt→Prop)→Prop
def spOf (K:PySem.W.Frag) (fs:List Bool) (G:GT):Sp:=fun vs H Q _=>∃ ts as Ox q,as.Nodup∧(∀ a∈as,a∉Ox)∧(∀ a∈Ox,H a≠none)∧ArgsAt K H (as ++ Ox) fs as ts vs∧G ts q ∧
 ∀ us r,q us r→∀ v H',(∀ b o,H b=some o→b∉as→H' b=some o)→RtAt K H as Ox H' us r v→Q v H'
def ro:List Bool→List Addr→List (Option Addr)
 | [],_=>[]
 | false :: fs,as=>none :: ro fs as
 | true :: fs,a :: as=>some a :: ro fs as
 | true :: fs,[]=>none :: ro fs []
def pz:List Bool→List Addr→Nat→List (Nat×Addr)
 | [],_,_=>[]
 | false :: fs,as,k=>pz fs as (k+1)
 | true :: fs,a :: as,k=>(k,a) :: pz fs as (k+1)
 | true :: fs,[],k=>pz fs [] (k+1)
def en0:List Bool→List T→En
 | f :: fs,t :: ts=>some (t,f) :: en0 fs ts
 | _,_=>[]
def fins:List Bool→En→List T
 | [],_=>[]
 | false :: fs,ρ=>fins fs ρ.tail
 | true :: fs,some (t,_) :: ρ=>t :: fins fs ρ
 | true :: fs,ρ=>.non :: fins fs ρ.tail
section
variable {K:PySem.W.Frag} {H:Hp} {A:List Addr}
theorem args_len:∀ {fs:List Bool} {as:List Addr} {ts:List T} {vs:List V},ArgsAt K H A fs as ts vs→ts.length=fs.length∧vs.length=fs.length∧(ro fs as).length=fs.length∧(en0 fs ts).length=fs.length∧roots (ro fs as)=as
 | [],as,ts,vs,h=>by obtain ⟨rfl,rfl,rfl⟩:=h; exact ⟨rfl,rfl,rfl,rfl,rfl⟩
 | false :: fs,as,ts,vs,h=>by
   obtain ⟨t,ts',v,vs',rfl,rfl,_,h⟩:=h
   obtain ⟨h1,h2,h3,h4,h5⟩:=args_len h
   exact ⟨by simp [h1],by simp [h2],by simp [ro,h3],by simp [en0,h4],by simpa [ro,roots] using h5⟩
 | true :: fs,as,ts,vs,h=>by
   obtain ⟨a,as',t,ts',vs',rfl,rfl,rfl,_,h⟩:=h
   obtain ⟨h1,h2,h3,h4,h5⟩:=args_len h
   refine ⟨by simp [h1],by simp [h2],by simp [ro,h3],by simp [en0,h4],?_⟩
   simp only [ro,roots,List.filterMap_cons,id] at h5 ⊢
   rw [h5]
theorem args_env:∀ {fs:List Bool} {as:List Addr} {ts:List T} {vs:List V},ArgsAt K H A fs as ts vs→∀ (i:Nat) e,(en0 fs ts)[i]?=some e→∃ o s,(ro fs as)[i]?=some o∧(vs.map some)[i]?=some s∧SlotAt K H A e o s
 | [],as,ts,vs,h,i,e,he=>by simp [en0] at he
 | false :: fs,as,ts,vs,h,i,e,he=>by
   obtain ⟨t,ts',v,vs',rfl,rfl,a,h⟩:=h
   cases i with
   | zero=>simp only [en0,List.getElem?_cons_zero,Option.some.injEq] at he; subst he; exact ⟨none,some v,rfl,rfl,rfl,v,rfl,a⟩
   | succ i=>exact args_env h i e (by simpa [en0] using he)
 | true :: fs,as,ts,vs,h,i,e,he=>by
   obtain ⟨a,as',t,ts',vs',rfl,rfl,rfl,r,h⟩:=h
   cases i with
   | zero=>simp only [en0,List.getElem?_cons_zero,Option.some.injEq] at he; subst he; exact ⟨some a,some (.ref a),rfl,rfl,a,rfl,rfl,r⟩
   | succ i=>exact args_env h i e (by simpa [en0] using he)
theorem args_root:∀ {fs:List Bool} {as:List Addr} {ts:List T} {vs:List V},ArgsAt K H A fs as ts vs→∀ a∈as,∃ t,Root K H A a t
 | [],as,ts,vs,h,a,ha=>by obtain ⟨rfl,rfl,rfl⟩:=h; cases ha
 | false :: fs,as,ts,vs,h,a,ha=>by obtain ⟨t,ts',v,vs',rfl,rfl,_,h⟩:=h; exact args_root h a ha
 | true :: fs,as,ts,vs,h,a,ha=>by
   obtain ⟨b,as',t,ts',vs',rfl,rfl,rfl,r,h⟩:=h
   rcases List.mem_cons.mp ha with z | z
   · subst z; exact ⟨t,r⟩
   · exact args_root h a z
theorem pz_ok:∀ {fs:List Bool} {as:List Addr} {ts:List T} {vs:List V} (k:Nat),ArgsAt K H A fs as ts vs→(pz fs as k).map (·.2)=as∧∀ p∈pz fs as k,k≤p.1∧(ro fs as)[p.1 - k]?=some (some p.2)
 | [],as,ts,vs,k,h=>by obtain ⟨rfl,rfl,rfl⟩:=h; exact ⟨rfl,fun _ z=>nomatch z⟩
 | false :: fs,as,ts,vs,k,h=>by
   obtain ⟨t,ts',v,vs',rfl,rfl,_,h⟩:=h
   obtain ⟨h1,h2⟩:=pz_ok (k+1) h
   refine ⟨h1,fun p hp=>?_⟩
   obtain ⟨l,e⟩:=h2 p hp
   refine ⟨by lia,?_⟩
   have:p.1 - k=(p.1 - (k+1))+1:=by lia
   rw [this]
   simpa [ro] using e
 | true :: fs,as,ts,vs,k,h=>by
   obtain ⟨a,as',t,ts',vs',rfl,rfl,rfl,_,h⟩:=h
   obtain ⟨h1,h2⟩:=pz_ok (k+1) h
   refine ⟨by simp [pz,h1],fun p hp=>?_⟩
   rcases List.mem_cons.mp hp with z | z
   · subst z; exact ⟨Nat.le_refl _,by simp [ro]⟩
   · obtain ⟨l,e⟩:=h2 p z
     refine ⟨by lia,?_⟩
     have:p.1 - k=(p.1 - (k+1))+1:=by lia
     rw [this]
     simpa [ro] using e
theorem fins_ok {R:Addr→T→Prop} {ρ:En}:∀ {fs:List Bool} {as:List Addr} {ts:List T} {vs:List V} (k:Nat),ArgsAt K H A fs as ts vs→(∀ p∈pz fs as k,∃ t,ρ[p.1]?=some (some (t,true))∧R p.2 t)→Paired R as (fins fs (ρ.drop k))
 | [],as,ts,vs,k,h,_=>by obtain ⟨rfl,rfl,rfl⟩:=h; exact .nil
 | false :: fs,as,ts,vs,k,h,q=>by
   obtain ⟨t,ts',v,vs',rfl,rfl,_,h⟩:=h
   have:=fins_ok (k+1) h q
   simp only [fins,List.tail_drop]
   exact this
 | true :: fs,as,ts,vs,k,h,q=>by
   obtain ⟨a,as',t,ts',vs',rfl,rfl,rfl,_,h⟩:=h
   have:=fins_ok (ρ:=ρ) (k+1) h fun p hp=>q p (List.mem_cons_of_mem _ hp)
   obtain ⟨u,e,r⟩:=q (k,a) List.mem_cons_self
   have hk:=(List.getElem?_eq_some_iff.mp e).1
   have e2:ρ[k]=some (u,true):=by rw [List.getElem?_eq_getElem hk] at e; exact Option.some.inj e
   rw [List.drop_eq_getElem_cons hk,e2]
   exact .cons r this
end
theorem start_ok {X:Cx} {N:List Str} {fs:List Bool} {as Ox:List Addr} {ts:List T} {vs:List V} {H:Hp} {Q:VK} {q:List T→Rt→Prop} {g:FS} (nd:as.Nodup) (nx:∀ a∈as,a∉Ox) (ox:∀ a∈Ox,H a≠none) (ha:ArgsAt X.K H (as ++ Ox) fs as ts vs)
  (kk:∀ us r,q us r→∀ v H',(∀ b o,H b=some o→b∉as→H' b=some o)→RtAt X.K H as Ox H' us r v→Q v H')
  (hq:g { nx:=fun ρ=>q (fins fs ρ) (.vw .non),rt:=fun ρ r=>q (fins fs ρ) r } (en0 fs ts ++ List.replicate (N.length - ts.length) none)) :
  lS X ⟨H,pz fs as 0,Ox⟩ [] g { nx:=fun _ H'=>Q .non H',rt:=Q } (start N vs) H:=by
 obtain ⟨K,eK⟩:∃ K,K=X.K:=⟨_,rfl⟩
 unfold lS
 rw [← eK] at ha kk ⊢
 obtain ⟨l1,l2,l3,l4,l5⟩:=args_len ha
 obtain ⟨p1,p2⟩:=pz_ok 0 ha
 have ea:av ⟨H,pz fs as 0,Ox⟩ (ro fs as ++ List.replicate (N.length - ts.length) none)=as ++ Ox:=by unfold av; rw [roots_app,l5]
 have I0:EnvAt K ⟨H,pz fs as 0,Ox⟩ [] (ro fs as ++ List.replicate (N.length - ts.length) none) (en0 fs ts ++ List.replicate (N.length - ts.length) none) (start N vs) H:=by
  refine ⟨?_,?_,fun i e he=>?_,by rw [roots_app,l5]; exact nd,fun a h=>?_,fun p hp=>?_,ox,fun b o e _=>e,fun p hp=>nomatch hp⟩
  · unfold L2.start; simp [l2,l4,l1]
  · simp [l3,l4]
  · rw [ea]
    by_cases hi:i < fs.length
    · rw [List.getElem?_append_left (by rw [l4]; exact hi)] at he
      obtain ⟨o,s,h1,h2,h3⟩:=args_env ha i e he
      refine ⟨o,s,by rw [List.getElem?_append_left (by rw [l3]; exact hi)]; exact h1,?_,h3⟩
      unfold L2.start
      rw [List.getElem?_append_left (by rw [List.length_map,l2]; exact hi)]; exact h2
    · rw [List.getElem?_append_right (by lia),List.getElem?_replicate] at he
      split at he
      · rename_i hl
        cases he
        refine ⟨none,none,?_,?_,rfl⟩
        · rw [List.getElem?_append_right (by lia),List.getElem?_replicate,if_pos (by rw [l3]; rw [l4] at hl; exact hl)]
        · unfold L2.start
          rw [List.getElem?_append_right (by rw [List.length_map]; lia),List.getElem?_replicate,List.length_map,if_pos (by rw [l2]; rw [l4,l1] at hl; exact hl)]
      · cases he
  · rw [roots_app,l5] at h
    obtain ⟨t,r⟩:=args_root ha a h
    exact ⟨.inl (by rw [p1]; exact h),nx a h,r.mut⟩
  · obtain ⟨_,e⟩:=p2 p hp
    rw [Nat.sub_zero] at e
    rw [List.getElem?_append_left (List.getElem?_eq_some_iff.mp e).1]; exact e
 have fin:∀ {O:List (Option Addr)} {ρ:En} {σ:St} {H':Hp} {Z':Zc},Z'.P=pz fs as 0→EnvAt K Z' [] O ρ σ H'→Paired (fun a u=>Root K H' (av Z' O) a u) as (fins fs ρ):=fun {O ρ σ H' Z'} eP I=>by
  have:=fins_ok (ρ:=ρ) (R:=fun a u=>Root K H' (av Z' O) a u) 0 ha fun p hp=>?_
  · rw [List.drop_zero] at this; exact this
  · have e:=I.par p (by rw [eP]; exact hp)
    have hl:=(List.getElem?_eq_some_iff.mp e).1
    have hl':p.1 < ρ.length:=by rw [← I.lO]; exact hl
    obtain ⟨o,s',h1,h2,h3⟩:=I.sl p.1 ρ[p.1] (by simp)
    rw [e] at h1
    cases h1
    cases q:ρ[p.1] with
    | none=>rw [q] at h3; cases h3
    | some tb =>
      obtain ⟨t,b⟩:=tb
      rw [q] at h3
      cases b with
      | false=>cases h3.1
      | true =>
        obtain ⟨a',e1,_,r⟩:=h3
        cases e1
        exact ⟨t,by rw [← q]; simp,r⟩
 have keep:∀ {O:List (Option Addr)} {ρ:En} {σ:St} {H':Hp} {Z':Zc},Z'.H0=H→Z'.P=pz fs as 0→EnvAt K Z' [] O ρ σ H'→∀ b o,H b=some o→b∉as→H' b=some o:=fun e0 eP I b o e n=>I.keep b o (by rw [e0]; exact e) (by rw [eP,p1]; exact n)
 have sub:∀ {O:List (Option Addr)} {ρ:En} {σ:St} {H':Hp} {Z':Zc},Z'.P=pz fs as 0→EnvAt K Z' [] O ρ σ H'→∀ a∈as,a∈roots O:=fun eP I a h=>by
  have:a∈(pz fs as 0).map (·.2):=by rw [p1]; exact h
  obtain ⟨p,hp,rfl⟩:=List.mem_map.mp this
  exact mem_roots.mpr (List.mem_of_getElem? (I.par p (by rw [eP]; exact hp)))
 refine ⟨_,_,_,I0,hq,⟨fun O ρ σ H' I h=>?_,fun O ρ σ H' r v z h=>?_,fun _ _ _ _ _ h=>h.elim,fun _ _ _ _ _ h=>h.elim⟩⟩
 · have sb:∀ a∈as ++ Ox,a∈av ⟨H,pz fs as 0,Ox⟩ O:=fun a h=>by
    rcases List.mem_append.mp h with h | h
    · exact List.mem_append_left _ (sub rfl I a h)
    · exact List.mem_append_right _ h
   exact kk _ _ h .non H' (keep rfl rfl I) ⟨at_non,Paired.mapP (fin rfl I) fun _ _ q=>q.fewer sb⟩
 · cases r with
   | vw t =>
     obtain ⟨I,a⟩:=z
     have sb:∀ a∈as ++ Ox,a∈av ⟨H,pz fs as 0,Ox⟩ O:=fun a h=>by
      rcases List.mem_append.mp h with h | h
      · exact List.mem_append_left _ (sub rfl I a h)
      · exact List.mem_append_right _ h
     exact kk _ _ h v H' (keep rfl rfl I) ⟨a.fewer sb,Paired.mapP (fin rfl I) fun _ _ q=>q.fewer sb⟩
   | fr t =>
     obtain ⟨b,rfl,I,hR,h0,hx⟩:=z
     have sb:∀ a∈b :: (as ++ Ox),a∈av (Zc.ex ⟨H,pz fs as 0,Ox⟩ b) O:=fun a h=>by
      rcases List.mem_cons.mp h with h | h
      · rw [h]; exact List.mem_append_right _ List.mem_cons_self
      · rcases List.mem_append.mp h with h | h
        · exact List.mem_append_left _ (sub rfl I a h)
        · exact List.mem_append_right _ (List.mem_cons_of_mem _ h)
     exact kk _ _ h (.ref b) H' (keep rfl rfl I) ⟨b,rfl,h0,fun hb=>(I.own b (sub rfl I b hb)).2.1 List.mem_cons_self,hR.fewer sb,Paired.mapP (fin rfl I) fun _ _ q=>q.fewer sb⟩
section
variable {P:Program} {w:World} {K:PySem.W.Frag} {mg:Str→Option Value} {base:Heap}
theorem fnV {x qual:Str} {st:Stmt} {f:Addr} {fd:FuncData} {N ps:List Str} {k:Nat} {fs:List Bool} {G:GT} (F:Fun K x qual st f fd) (S:FnScope N ps (defScope st)) (hfs:fs.length=ps.length)
  (hbody:∀ (cdv:Value) (A:Around) (outer:List Env) (s:Shared) (H:Hp) (E:XK) (as Ox:List Addr),Room k (A.deeper (envOfC qual (defScope st) s.heap.objs.size f cdv))→∀ ts q,ts.length=fs.length→G ts q →
    ∃ g,VSs (cxOf CX0 P w K mg base N qual (defScope st) f cdv A outer s H E).nox ⟨H,pz fs as 0,Ox⟩ (defBody st) g∧g { nx:=fun ρ=>q (fins fs ρ) (.vw .non),rt:=fun ρ r=>q (fins fs ρ) r } (en0 fs ts ++ List.replicate (N.length - ts.length) none)) :
  FnOk P w K mg base CX0 (k+1) f fd ps (spOf K fs G):=by
 refine F.ok S (fun vs H Q E h=>?_) (fun cdv A outer s H vs Q E hr h=>?_)
 · obtain ⟨ts,as,Ox,q,_,_,_,ha,_⟩:=h
   rw [← hfs]; exact (args_len ha).2.1
 · obtain ⟨ts,as,Ox,q,nd,nx,ox,ha,hG,kk⟩:=h
   have l1:=(args_len ha).1
   obtain ⟨g,hg,hq⟩:=hbody cdv A outer s H E as Ox hr ts q l1 hG
   exact ⟨_,hg [],start_ok nd nx ox ha kk hq⟩
end
end VT
namespace VT
open PySem PySem.Spec PyProof.Rows L2
def spP (K:PySem.W.Frag) (n:Nat) (G:List T→(Rt→Prop)→Prop):Sp:=spOf K (List.replicate n false) fun ts q=>G ts (q [])
section
variable {K:PySem.W.Frag} {H:Hp} {A:List Addr}
theorem args_views:∀ {n:Nat} {ts:List T} {vs:List V},ts.length=n→AtL K H A ts vs→ArgsAt K H A (List.replicate n false) [] ts vs
 | 0,ts,vs,l,h=>by
   have e:ts=[]:=List.length_eq_zero_iff.mp l
   subst e
   simp only [AtL] at h
   exact ⟨rfl,rfl,h⟩
 | n+1,ts,vs,l,h=>by
   cases ts with
   | nil=>simp at l
   | cons t ts =>
     simp only [AtL] at h
     obtain ⟨v,r,rfl,h1,h2⟩:=h
     exact ⟨t,ts,v,r,rfl,rfl,h1,args_views (by simpa using l) h2⟩
end
theorem EnvAt.newAt {K:PySem.W.Frag} {Z:Zc} {tm:List (T×V)} {O:List (Option Addr)} {ρ:En} {σ:St} {H H':Hp} (I:EnvAt K Z tm O ρ σ H) {a:Addr} (h:H a=none) (s:Same H H') {u:HO} (hu:H' a=some u):EnvAt K (Z.ex a) tm O ρ σ H':=by
 have J:=I.same s
 obtain ⟨n1,n2,n3⟩:=I.fresh h
 have mr:∀ b∈av (Z.ex a) O,b∈av Z O∨H b=none:=fun b hb=>(av_ex_sub b hb).imp id fun e=>by rw [e]; exact h
 have fw:∀ {t:T} {v:V},At K H (av Z O) t v→At K H' (av (Z.ex a) O) t v:=fun q=>(q.more mr).same s
 refine ⟨J.lσ,J.lO,fun i e hi=>?_,J.nd,fun b hb=>?_,J.par,fun b hb=>?_,J.keep,fun p hp=>fw (I.tmp p hp)⟩
 · obtain ⟨o,w,h1,h2,h3⟩:=I.sl i e hi
   refine ⟨o,w,h1,h2,h3.map (fun _ _ q=>fw q) fun b t eo q=>?_⟩
   exact Root.same (q.map rfl fun _ _ z=>z.more mr) s
 · obtain ⟨q1,q2,q3⟩:=J.own b hb
   refine ⟨q1,fun z=>?_,q3⟩
   rcases List.mem_cons.mp z with z | z
   · exact n1 (by rw [← z]; exact List.mem_append_left _ hb)
   · exact q2 z
 · rcases List.mem_cons.mp hb with z | z
   · rw [z,hu]; simp
   · exact J.ox b z
def fCallV (n:Nat) (g:FA) (G:List T→(Rt→Prop)→Prop):FP:=fun ρ Q=>g ρ fun ts=>ts.length=n∧G ts Q
section
variable {X:Cx} {Z:Zc} {k n:Nat} {f:Addr} {fd:FuncData} {ps:List Str} {G:List T→(Rt→Prop)→Prop} {x:Str} {p pos:Pos} {e:Expr} {es:List Expr} {g:FA}
theorem call_ok {tm:List (T×V)} {O:List (Option Addr)} {ρ:En} {σ:St} {H:Hp} {ts:List T} {vs:List V} {q:Rt→Prop} {Q:VK} (I:EnvAt X.K Z tm O ρ σ H) (a:AtL X.K H (av Z O) ts vs) (hn:ts.length=n) (hG:G ts q)
  (k:∀ r,q r→∀ v H',Same H H'→RetX X.K Z tm O ρ σ H' r v→Q v H'):spP X.K n G (vs ++ []) H Q E0:=by
 rw [List.append_nil]
 refine ⟨ts,[],av Z O,fun _ r=>q r,List.nodup_nil,fun _ z=>absurd z List.not_mem_nil,I.avH,args_views hn a,hG,fun us r hr v H' fr z=>?_⟩
 have s:Same H H':=fun b o e=>fr b o e List.not_mem_nil
 cases r with
 | vw t=>exact k _ hr v H' s ⟨I.same s,z.1⟩
 | fr t =>
   obtain ⟨b,rfl,hb,_,hR,_⟩:=z
   obtain ⟨n1,n2,n3⟩:=I.fresh hb
   obtain ⟨u,eu,_⟩:=hR.mut
   refine k _ hr _ H' s ⟨b,rfl,I.newAt hb s eu,hR.fewer fun c hc=>?_,n3,n2⟩
   rcases av_ex_sub c hc with z | z
   · exact List.mem_cons_of_mem _ z
   · rw [z]; exact List.mem_cons_self
theorem vp_call (F:FnOk X.prog X.w X.K X.mg X.base CX0 k f fd ps (spP X.K n G)) (hr:Room k X.A) (hg:Gl X x) (hm:X.mg x=some (.ref f)) (hk:PySem.W.keepIn X.K (.ref f)=true) (hb:Binds X.K fd ps []) (ha:VA X Z (e :: es) g)
  (hdb:(x == ("__debug__" : Str))=false:=by decide) (he:starEach (e :: es) X.env=(false,eval e X.env) :: starEach es X.env:=by rfl) (hpl:(backTo pos (starEach es X.env)).any (·.1)=false:=by rfl) :
  VP X Z (.Call (.Name x p) (e :: es) [] pos) (fCallV n g G):=.mk fun tm=>PE.weak (pe_call F hr hg hm hk hb .nil pass0 (ha tm) hdb he hpl) fun σ H Q ⟨ρ,O,q,I,hf,k⟩ =>
 ⟨ρ,O,_,I,hf,fun ts hts vs H1 s1 a1=>call_ok (I.same s1) a1 hts.1 hts.2 fun r hr v H' s z=>k r hr v H' (s1.trans s) z⟩
end
def AM (K:PySem.W.Frag) (H:Hp) (A:List Addr) (O:List (Option Addr)) (ρ:En):List (Option Nat)→List T→List V→Prop
 | [],ts,vs=>ts=[]∧vs=[]
 | none :: ms,ts,vs=>∃ t ts' v vs',ts=t :: ts'∧vs=v :: vs'∧At K H A t v∧AM K H A O ρ ms ts' vs'
 | some k :: ms,ts,vs=>∃ a t ts' vs',ts=t :: ts'∧vs = .ref a :: vs'∧ρ[k]?=some (some (t,true))∧O[k]?=some (some a)∧AM K H A O ρ ms ts' vs'
def lAM (X:Cx) (Z:Zc) (tm:List (T×V)) (ms:List (Option Nat)) (f:FA):TA:=fun σ H Q=>∃ ρ O q,EnvAt X.K Z tm O ρ σ H∧f ρ q∧∀ ts,q ts→∀ vs H',Same H H'→AM X.K H' (av Z O) O ρ ms ts vs→Q vs H'
def VAM (X:Cx) (Z:Zc) (es:List Expr) (ms:List (Option Nat)) (f:FA):Prop:=Bx fun tm=>PA X es (lAM X Z tm ms f)
instance {X:Cx} {Z:Zc} {es:List Expr} {ms:List (Option Nat)} {f:FA}:CoeFun (VAM X Z es ms f) fun _=>∀ tm,PA X es (lAM X Z tm ms f):=⟨fun h=>Bx.h h⟩
def fVarO (i:Nat):FE:=fun ρ Q=>match ρ[i]? with
 | some (some (t,true))=>Q t
 | _=>False
section
variable {X:Cx} {Z:Zc} {e:Expr} {es:List Expr} {g:FA}
theorem vam_nil:VAM X Z [] [] fNil:=.mk fun tm=>PA.weak pa_nil fun σ H Q ⟨ρ,O,q,I,hf,k⟩=>k _ hf [] H (Same.refl H) ⟨rfl,rfl⟩
theorem vam_cons {ms:List (Option Nat)} {f:FE} (h:VE X Z e f) (h':VAM X Z es ms g) (hs:starEach (e :: es) X.env=(false,eval e X.env) :: starEach es X.env:=by rfl):VAM X Z (e :: es) (none :: ms) (fCons f g) :=
 .mk fun tm=>PA.weak (pa_cons (h tm) (h' tm) hs) fun σ H Q ⟨ρ,O,q,I,hf,k⟩=>⟨ρ,O,_,I,hf,fun t ht v H1 s1 a1=>⟨ρ,O,_,I.same s1,ht,fun ts hts vs H2 s2 a2=>k _ hts _ H2 (s1.trans s2) ⟨t,ts,v,vs,rfl,rfl,a1.same s2,a2⟩⟩⟩
theorem vam_own (j:Nat) {ms:List (Option Nat)} {y:Str} {py:Pos} (h':VAM X Z es ms g) (hN:X.N[j]?=some y:=by rfl) (hv:Vis X.env.scope y:=by first | exact Or.inl rfl | exact Or.inr (Or.inl rfl) | exact Or.inr (Or.inr rfl)) (hd:(y == ("__debug__" : Str))=false:=by decide)
  (hcd:(y == ("__classdict__" : Str))=false:=by decide) (hs:starEach (.Name y py :: es) X.env=(false,eval (.Name y py) X.env) :: starEach es X.env:=by rfl):VAM X Z (.Name y py :: es) (some j :: ms) (fCons (fVarO j) g) :=
 .mk fun tm=>PA.weak (pa_cons (pe_var hN hv hd hcd) (h' tm) hs) fun σ H Q ⟨ρ,O,q,I,hf,k⟩=>by
  have hf':fVarO j ρ fun t=>g ρ fun ts=>q (t :: ts):=hf
  unfold fVarO at hf'
  split at hf'
  · rename_i t e0
    obtain ⟨a,h1,h2,h3⟩:=I.root e0
    exact ⟨.ref a,h2,ρ,O,_,I,hf',fun ts hts vs H2 s2 a2=>k _ hts _ H2 s2 ⟨a,t,ts,vs,rfl,rfl,e0,h1,a2⟩⟩
  · exact hf'.elim
end
def putK:List Nat→List T→En→En
 | k :: ks,u :: us,ρ=>putK ks us (ρ.set k (some (u,true)))
 | _,_,ρ=>ρ
theorem putK_len:∀ (ks:List Nat) (us:List T) (ρ:En),(putK ks us ρ).length=ρ.length
 | [],_,_=>rfl
 | _ :: _,[],_=>rfl
 | k :: ks,u :: us,ρ=>by rw [putK,putK_len]; simp
theorem putK_get:∀ {ks:List Nat} {us:List T} {ρ:En} {i:Nat} {e:Option (T×Bool)},ks.Nodup→ks.length=us.length→(putK ks us ρ)[i]?=some e→(i∉ks∧ρ[i]?=some e)∨∃ (j:Nat) (u:T),ks[j]?=some i∧us[j]?=some u∧e=some (u,true)
 | [],us,ρ,i,e,_,_,h=>.inl ⟨List.not_mem_nil,h⟩
 | k :: ks,[],ρ,i,e,_,l,h=>by simp at l
 | k :: ks,u :: us,ρ,i,e,nd,l,h=>by
   rw [List.nodup_cons] at nd
   rcases putK_get nd.2 (by simpa using l) (show (putK ks us (ρ.set k (some (u,true))))[i]?=some e from h) with ⟨h1,h2⟩ | ⟨j,u',h1,h2,h3⟩
   · rcases get_set h2 with ⟨rfl,rfl,_⟩ | ⟨ne,h2⟩
     · exact .inr ⟨0,u,rfl,rfl,rfl⟩
     · exact .inl ⟨fun z=>by rcases List.mem_cons.mp z with z | z; exact ne z; exact h1 z,h2⟩
   · exact .inr ⟨j+1,u',by simpa using h1,by simpa using h2,h3⟩
section
variable {K:PySem.W.Frag} {H H':Hp} {A:List Addr}
theorem At.framed {as:List Addr} {t:T} {v:V} (fr:∀ b o,H b=some o→b∉as→H' b=some o) (sub:∀ a∈as,a∈A) (mu:∀ a∈as,∃ u,H a=some u∧mutO u=true) (h:At K H A t v):At K H' A t v:=by
 refine At.map (H:=H) (H':=H') (fun b vs q=>?_) (fun b vs q=>?_) (fun b kvs q=>?_) (fun b vs q=>fr _ _ q fun m=>by
  obtain ⟨u,eu,mm⟩:=mu b m
  rw [q] at eu; cases eu; cases mm) h
 · rcases q with q | q
   · refine .inl ⟨?_,q.2⟩
     have nb:b∉as:=fun z=>q.2 (sub b z)
     rcases q.1 with z | ⟨o',z⟩
     · exact .inl (fr _ _ z nb)
     · exact .inr ⟨o',fr _ _ z nb⟩
   · exact .inr q
 · rcases q with z | z
   · refine .inl ?_
     have nb:b∉as:=fun m=>by
      obtain ⟨u,eu,mu⟩:=mu b m
      rcases z with z | ⟨o',z⟩
      · rw [z] at eu; cases eu; cases mu
      · rw [z] at eu; cases eu; cases mu
     rcases z with z | ⟨o',z⟩
     · exact .inl (fr _ _ z nb)
     · exact .inr ⟨o',fr _ _ z nb⟩
   · exact .inr z
 · exact ⟨fr _ _ q.1 fun z=>q.2 (sub b z),q.2⟩
theorem AM.args {A':List Addr} {O:List (Option Addr)} {ρ:En} (sub:∀ a∈A',a∈A) (hr:∀ (k:Nat) t,ρ[k]?=some (some (t,true))→∃ a,O[k]?=some (some a)∧Root K H A a t):∀ {ms:List (Option Nat)} {ts:List T} {vs:List V},AM K H A O ρ ms ts vs →
  ∃ as,ArgsAt K H A' (ms.map Option.isSome) as ts vs∧Paired (fun a k=>O[k]?=some (some a)) as (ms.filterMap id)
 | [],ts,vs,h=>⟨[],⟨rfl,h.1,h.2⟩,.nil⟩
 | none :: ms,ts,vs,h=>by
   obtain ⟨t,ts',v,vs',rfl,rfl,a,h⟩:=h
   obtain ⟨as,h1,h2⟩:=AM.args sub hr h
   exact ⟨as,⟨t,ts',v,vs',rfl,rfl,a.fewer sub,h1⟩,h2⟩
 | some k :: ms,ts,vs,h=>by
   obtain ⟨a,t,ts',vs',rfl,rfl,e0,e1,h⟩:=h
   obtain ⟨as,h1,h2⟩:=AM.args sub hr h
   obtain ⟨a',e2,r⟩:=hr k t e0
   rw [e1] at e2
   cases e2
   exact ⟨a :: as,⟨a,as,t,ts',vs',rfl,rfl,rfl,r.fewer sub,h1⟩,.cons e1 h2⟩
end
def fCallM (ms:List (Option Nat)) (g:FA) (G:GT):FX:=fun ρ Q=>g ρ fun ts=>G ts fun us r=>Q (putK (ms.filterMap id) us ρ) r
section
variable {X:Cx} {Z:Zc} {k:Nat} {f:Addr} {fd:FuncData} {ps:List Str} {fs:List Bool} {G:GT} {x:Str} {p pos:Pos} {e:Expr} {es:List Expr} {g:FA} {ms:List (Option Nat)}
theorem inj_O {K:PySem.W.Frag} {tm:List (T×V)} {O:List (Option Addr)} {ρ:En} {σ:St} {H:Hp} (I:EnvAt K Z tm O ρ σ H) {i j:Nat} {a:Addr} (h1:O[i]?=some (some a)) (h2:O[j]?=some (some a)):i=j:=by
 have key:∀ (O:List (Option Addr)) (i j:Nat),i < j→O[i]?=some (some a)→O[j]?=some (some a)→(roots O).Nodup→False:=by
  intro O
  induction O with
  | nil=>intro i j _ h; simp at h
  | cons o O ih =>
    intro i j hij e1 e2 nd
    cases j with
    | zero=>lia
    | succ j =>
      have e2':O[j]?=some (some a):=by simpa using e2
      cases i with
      | zero =>
        have:o=some a:=by simpa using e1
        subst this
        simp only [roots,List.filterMap_cons,id] at nd
        exact (List.nodup_cons.mp nd).1 (mem_roots.mpr (List.mem_of_getElem? e2'))
      | succ i =>
        refine ih i j (by lia) (by simpa using e1) e2' ?_
        cases o with
        | none=>simpa [roots] using nd
        | some b=>simp only [roots,List.filterMap_cons,id] at nd; exact (List.nodup_cons.mp nd).2
 rcases Nat.lt_trichotomy i j with l | l | l
 · exact (key O i j l h1 h2 I.nd).elim
 · exact l
 · exact (key O j i l h2 h1 I.nd).elim
theorem paired_mem {α β:Type} {F:α→β→Prop}:∀ {l₁:List α} {l₂:List β} {a:α},Paired F l₁ l₂→a∈l₁→∃ b∈l₂,F a b
 | _,_,_,.nil,h=>nomatch h
 | _,_,a,.cons r t,h=>by
   rcases List.mem_cons.mp h with z | z
   · subst z; exact ⟨_,List.mem_cons_self,r⟩
   · obtain ⟨b,h1,h2⟩:=paired_mem t z; exact ⟨b,List.mem_cons_of_mem _ h1,h2⟩
theorem paired_get {α β:Type} {F:α→β→Prop}:∀ {l₁:List α} {l₂:List β} {i:Nat} {b:β},Paired F l₁ l₂→l₂[i]?=some b→∃ a,l₁[i]?=some a∧F a b
 | _,_,_,_,.nil,e=>by simp at e
 | _,_,0,_,.cons r _,e=>by simp at e; subst e; exact ⟨_,rfl,r⟩
 | _,_,i+1,b,.cons _ t,e=>by
   obtain ⟨a,h1,h2⟩:=paired_get (i:=i) (b:=b) t (by simpa using e)
   exact ⟨a,by simpa using h1,h2⟩
theorem paired_getL {α β:Type} {F:α→β→Prop}:∀ {l₁:List α} {l₂:List β} {i:Nat} {a:α},Paired F l₁ l₂→l₁[i]?=some a→∃ b,l₂[i]?=some b∧F a b
 | _,_,_,_,.nil,e=>by simp at e
 | _,_,0,_,.cons r _,e=>by simp at e; subst e; exact ⟨_,rfl,r⟩
 | _,_,i+1,b,.cons _ t,e=>by
   obtain ⟨a,h1,h2⟩:=paired_getL (i:=i) (a:=b) t (by simpa using e)
   exact ⟨a,by simpa using h1,h2⟩
theorem EnvAt.called {K:PySem.W.Frag} {Z':Zc} {tm:List (T×V)} {O:List (Option Addr)} {ρ:En} {σ:St} {H H':Hp} {as:List Addr} {ks:List Nat} {us:List T} (I:EnvAt K Z tm O ρ σ H) (hk:Paired (fun a k=>O[k]?=some (some a)) as ks) (nk:ks.Nodup)
  (fr:∀ b o,H b=some o→b∉as→H' b=some o) (hu:Paired (fun a u=>Root K H' (av Z' O) a u) as us)
  (hZ:Z'.H0=Z.H0) (hP:Z'.P=Z.P) (hox:∀ a∈Z'.Ox,a∉roots O∧H' a≠none) (more:∀ a∈av Z' O,a∈av Z O∨H a=none):EnvAt K Z' tm O (putK ks us ρ) σ H':=by
 have sub0:∀ a∈as,a∈roots O:=fun a h=>by obtain ⟨k,_,e⟩:=paired_mem hk h; exact mem_roots.mpr (List.mem_of_getElem? e)
 have sub:∀ a∈as,a∈av Z O:=fun a h=>List.mem_append_left _ (sub0 a h)
 have sub':∀ a∈as,a∈av Z' O:=fun a h=>List.mem_append_left _ (sub0 a h)
 have mu:∀ a∈as,∃ u,H a=some u∧mutO u=true:=fun a h=>(I.own a (sub0 a h)).2.2
 have fw:∀ {t:T} {v:V},At K H (av Z O) t v→At K H' (av Z' O) t v:=fun q=>(q.more more).framed fr sub' mu
 have fwL:∀ {t:List T} {v:List V},AtL K H (av Z O) t v→AtL K H' (av Z' O) t v:=fun q=>AtL.iff.mpr (Paired.mapP (AtL.iff.mp q) fun _ _ z=>fw z)
 refine ⟨by rw [putK_len]; exact I.lσ,by rw [putK_len]; exact I.lO,fun i e h=>?_,I.nd,fun b hb=>?_,by rw [hP]; exact I.par,fun a ha=>(hox a ha).2,fun b o e n=>?_,fun p hp=>fw (I.tmp p hp)⟩
 · rcases putK_get nk (by rw [← Paired.length hk,Paired.length hu]) h with ⟨h1,h2⟩ | ⟨j,u,h1,h2,rfl⟩
   · obtain ⟨o,s,g1,g2,g3⟩:=I.sl i e h2
     refine ⟨o,s,g1,g2,g3.map (fun _ _ q=>fw q) fun b t eo q=>?_⟩
     subst eo
     have nb:b∉as:=fun m=>by
      obtain ⟨k,hk1,hk2⟩:=paired_mem hk m
      exact h1 (by rw [inj_O I g1 hk2]; exact hk1)
     obtain ⟨u,eu,_⟩:=q.mut
     exact q.map (by rw [eu]; exact fr _ _ eu nb) fun _ _ z=>fwL z
   · obtain ⟨a,ha,r⟩:=paired_get hu h2
     obtain ⟨k,hk1,hk2⟩:=paired_getL hk ha
     rw [h1] at hk1
     cases hk1
     have hl:i < ρ.length:=by rw [← I.lO]; exact (List.getElem?_eq_some_iff.mp hk2).1
     obtain ⟨o,s,g1,g2,g3⟩:=I.sl i ρ[i] (by simp)
     rw [hk2] at g1
     cases g1
     refine ⟨some a,s,hk2,g2,a,rfl,?_,r⟩
     cases q:ρ[i] with
     | none=>rw [q] at g3; cases g3
     | some tb =>
       obtain ⟨t,b⟩:=tb
       rw [q] at g3
       cases b with
       | false=>cases g3.1
       | true=>obtain ⟨a',e1,e2,_⟩:=g3; cases e1; exact e2
 · obtain ⟨q1,q2,v,e,m⟩:=I.own b hb
   refine ⟨by rw [hZ,hP]; exact q1,fun z=>(hox b z).1 hb,?_⟩
   by_cases hba:b∈as
   · obtain ⟨j,hj⟩:=List.mem_iff_getElem?.mp hba
     obtain ⟨u,_,r⟩:=paired_getL hu hj
     exact r.mut
   · exact ⟨v,fr _ _ e hba,m⟩
 · rw [hZ] at e
   rw [hP] at n
   refine fr _ _ (I.keep b o e n) fun m=>?_
   rcases (I.own b (sub0 b m)).1 with z | z
   · exact n z
   · rw [z] at e; cases e
theorem vx_callM (F:FnOk X.prog X.w X.K X.mg X.base CX0 k f fd ps (spOf X.K fs G)) (hr:Room k X.A) (hg:Gl X x) (hm:X.mg x=some (.ref f)) (hk:PySem.W.keepIn X.K (.ref f)=true) (hb:Binds X.K fd ps []) (ha:VAM X Z (e :: es) ms g)
  (hfs:ms.map Option.isSome=fs:=by rfl) (hnd:(ms.filterMap id).Nodup:=by decide)
  (hdb:(x == ("__debug__" : Str))=false:=by decide) (he:starEach (e :: es) X.env=(false,eval e X.env) :: starEach es X.env:=by rfl) (hpl:(backTo pos (starEach es X.env)).any (·.1)=false:=by rfl) :
  VX X Z (.Call (.Name x p) (e :: es) [] pos) (fCallM ms g G):=.mk fun tm=>PE.weak (pe_call F hr hg hm hk hb .nil pass0 (ha tm) hdb he hpl) fun σ H Q ⟨ρ,O,q,I,hf,k⟩ =>
 ⟨ρ,O,_,I,hf,fun ts hts vs H1 s1 a1=>by
   subst hfs
   show spOf X.K _ G (vs ++ []) H1 Q E0
   rw [List.append_nil]
   have J:=I.same s1
   obtain ⟨as,h1,h2⟩:=AM.args (A':=av Z O) (fun _ z=>z) (fun k t e=>by obtain ⟨a,q1,q2,q3⟩:=J.root e; exact ⟨a,q1,q3⟩) a1
   have sub0:∀ a∈as,a∈roots O:=fun a h=>by obtain ⟨k,_,e⟩:=paired_mem h2 h; exact mem_roots.mpr (List.mem_of_getElem? e)
   have ndA:as.Nodup:=by
    clear h1
    have:∀ {as:List Addr} {ks:List Nat},ks.Nodup→Paired (fun a k=>O[k]?=some (some a)) as ks→as.Nodup:=by
     intro as ks nd h
     induction h with
     | nil=>exact List.nodup_nil
     | cons r t ih =>
       rw [List.nodup_cons] at nd ⊢
       refine ⟨fun m=>?_,ih nd.2⟩
       obtain ⟨k',m1,m2⟩:=paired_mem t m
       exact nd.1 (by rw [inj_O J r m2]; exact m1)
    exact this hnd h2
   have mOx:∀ b,b∈as ++ (av Z O).filter (fun b=>decide (b∉as))↔b∈av Z O:=fun b=>by
    rw [List.mem_append,List.mem_filter]
    constructor
    · rintro (z | z)
      · exact List.mem_append_left _ (sub0 b z)
      · exact z.1
    · intro z
      by_cases hb:b∈as
      · exact .inl hb
      · exact .inr ⟨z,decide_eq_true hb⟩
   obtain ⟨as',h1',h2'⟩:=AM.args (A':=as ++ (av Z O).filter (fun b=>decide (b∉as))) (fun b z=>(mOx b).mp z) (fun k t e=>by obtain ⟨a,q1,q2,q3⟩:=J.root e; exact ⟨a,q1,q3⟩) a1
   have ee:as'=as:=by
    have:∀ {as as':List Addr} {ks:List Nat},Paired (fun a k=>O[k]?=some (some a)) as ks→Paired (fun a k=>O[k]?=some (some a)) as' ks→as'=as:=by
     intro as as' ks h h'
     induction h generalizing as' with
     | nil=>cases h'; rfl
     | cons r t ih =>
       cases h' with
       | cons r' t' =>
         rw [r] at r'
         cases r'
         rw [ih t']
    exact this h2 h2'
   subst ee
   refine ⟨ts,as',(av Z O).filter (fun b=>decide (b∉as')),_,ndA,fun a h z=>?_,fun a h=>J.avH a (List.mem_filter.mp h).1,h1',hts,fun us r hr v H' fr z=>?_⟩
   · exact (of_decide_eq_true (List.mem_filter.mp z).2) h
   have oxH':∀ a∈Z.Ox,a∉roots O∧H' a≠none:=fun a h=>by
    have na:a∉roots O:=fun m=>(J.own a m).2.1 h
    refine ⟨na,?_⟩
    cases e:H1 a with
    | none=>exact absurd e (J.ox a h)
    | some u=>rw [fr _ _ e fun m=>na (sub0 a m)]; simp
   cases r with
   | vw t =>
     obtain ⟨z1,z2⟩:=z
     exact k _ _ hr O v H' ⟨J.called h2 hnd fr (Paired.mapP z2 fun _ _ q=>q.fewer fun b hb=>(mOx b).mpr hb) rfl rfl oxH' fun a h=>.inl h,z1.fewer fun b hb=>(mOx b).mpr hb⟩
   | fr t =>
     obtain ⟨b,rfl,hb,nb,hR,z2⟩:=z
     obtain ⟨n1,n2,n3⟩:=J.fresh hb
     have sb:∀ c∈av (Z.ex b) O,c∈b :: (as' ++ (av Z O).filter (fun b=>decide (b∉as'))):=fun c hc=>by
      rcases av_ex_sub c hc with z | z
      · exact List.mem_cons_of_mem _ ((mOx c).mpr z)
      · rw [z]; exact List.mem_cons_self
     refine k _ _ hr O _ H' ⟨b,rfl,J.called h2 hnd fr (Paired.mapP z2 fun _ _ q=>q.fewer sb) rfl rfl (fun a h=>?_) (fun a h=>(av_ex_sub a h).imp id fun e=>by rw [e]; exact hb),hR.fewer sb,n3,n2⟩
     rcases List.mem_cons.mp h with z | z
     · subst z
       obtain ⟨u,eu,_⟩:=hR.mut
       exact ⟨fun m=>n1 (List.mem_append_left _ m),by rw [eu]; simp⟩
     · exact oxH' a z⟩
end
end VT
namespace VT
open PySem PySem.Spec PyProof.Rows L2
section
variable (K:PySem.W.Frag)
theorem kit_int_bool:PySem.W.kitOne K (.type "int") (.type "bool")=some false:=by kernel_rfl
theorem kit_int_list:PySem.W.kitOne K (.type "int") (.type "list")=some false:=by kernel_rfl
theorem kit_int_tuple:PySem.W.kitOne K (.type "int") (.type "tuple")=some false:=by kernel_rfl
theorem kit_int_dict:PySem.W.kitOne K (.type "int") (.type "dict")=some false:=by kernel_rfl
theorem kit_bool_bool:PySem.W.kitOne K (.type "bool") (.type "bool")=some true:=by kernel_rfl
theorem kit_bool_list:PySem.W.kitOne K (.type "bool") (.type "list")=some false:=by kernel_rfl
theorem kit_bool_tuple:PySem.W.kitOne K (.type "bool") (.type "tuple")=some false:=by kernel_rfl
theorem kit_bool_dict:PySem.W.kitOne K (.type "bool") (.type "dict")=some false:=by kernel_rfl
theorem kit_str_bool:PySem.W.kitOne K (.type "str") (.type "bool")=some false:=by kernel_rfl
theorem kit_str_list:PySem.W.kitOne K (.type "str") (.type "list")=some false:=by kernel_rfl
theorem kit_str_tuple:PySem.W.kitOne K (.type "str") (.type "tuple")=some false:=by kernel_rfl
theorem kit_str_dict:PySem.W.kitOne K (.type "str") (.type "dict")=some false:=by kernel_rfl
theorem kit_list_bool:PySem.W.kitOne K (.type "list") (.type "bool")=some false:=by kernel_rfl
theorem kit_list_list:PySem.W.kitOne K (.type "list") (.type "list")=some true:=by kernel_rfl
theorem kit_list_tuple:PySem.W.kitOne K (.type "list") (.type "tuple")=some false:=by kernel_rfl
theorem kit_list_dict:PySem.W.kitOne K (.type "list") (.type "dict")=some false:=by kernel_rfl
theorem kit_tuple_bool:PySem.W.kitOne K (.type "tuple") (.type "bool")=some false:=by kernel_rfl
theorem kit_tuple_list:PySem.W.kitOne K (.type "tuple") (.type "list")=some false:=by kernel_rfl
theorem kit_tuple_tuple:PySem.W.kitOne K (.type "tuple") (.type "tuple")=some true:=by kernel_rfl
theorem kit_tuple_dict:PySem.W.kitOne K (.type "tuple") (.type "dict")=some false:=by kernel_rfl
theorem kit_dict_bool:PySem.W.kitOne K (.type "dict") (.type "bool")=some false:=by kernel_rfl
theorem kit_dict_list:PySem.W.kitOne K (.type "dict") (.type "list")=some false:=by kernel_rfl
theorem kit_dict_tuple:PySem.W.kitOne K (.type "dict") (.type "tuple")=some false:=by kernel_rfl
theorem kit_dict_dict:PySem.W.kitOne K (.type "dict") (.type "dict")=some true:=by kernel_rfl
theorem kit_NoneType_bool:PySem.W.kitOne K (.type "NoneType") (.type "bool")=some false:=by kernel_rfl
theorem kit_NoneType_list:PySem.W.kitOne K (.type "NoneType") (.type "list")=some false:=by kernel_rfl
theorem kit_NoneType_tuple:PySem.W.kitOne K (.type "NoneType") (.type "tuple")=some false:=by kernel_rfl
theorem kit_NoneType_dict:PySem.W.kitOne K (.type "NoneType") (.type "dict")=some false:=by kernel_rfl
end
def Ty2 (K:PySem.W.Frag) (H:Hp):V→String→Prop
 | .non,t=>t="NoneType"
 | .bl _,t=>t="bool"
 | .int _,t=>t="int"
 | .str _,t=>t="str"
 | .ref a,t=>(t="list"∧∃ xs,SqL K H a xs)∨(t="tuple"∧∃ xs,SqT K H a xs)∨(t="dict"∧∃ kvs,H a=some (.dK kvs))
 | _,_=>False
def rInst (K:PySem.W.Frag):List V→Hp→VK→Prop:=fun xs H Q=>∃ x n t b,xs=[x,.ty n]∧Ty2 K H x t∧PySem.W.kitOne K (.type t) (.type n)=some b∧Q (.bl b) H
theorem call_inst {X:Cx}:CallR X (.builtin "isinstance") (rInst X.K):=by
 intro pins s σ H xs us Q I r h
 obtain ⟨x,n,t,b,rfl,ty,e,q⟩:=h
 obtain ⟨u,w',rfl,rx,ry⟩:=vals2 r
 obtain rfl:=ry
 have fin:∀ tk,EP X pins σ Q (.bool b) { s with toks:=tk }:=fun tk=>⟨.bl b,H,I.tok _,rfl,q⟩
 cases x with
 | non=>cases (show t=_ from ty); cases (show u=Value.none from rx); exact PySem.W.kia_one PySem.W.kitx_none I.kIn True.intro e (fun z=>nomatch z) fin
 | bl y=>cases (show t=_ from ty); cases (show u=Value.bool y from rx); exact PySem.W.kia_one PySem.W.kitx_bool I.kIn True.intro e (fun z=>nomatch z) fin
 | int i=>cases (show t=_ from ty); obtain ⟨t,q⟩:=(show ∃ t,u=Value.int i t from rx); cases q; exact PySem.W.kia_one PySem.W.kitx_int I.kIn True.intro e (fun z=>nomatch z) fin
 | str y=>cases (show t=_ from ty); obtain ⟨t,q⟩:=(show ∃ t,u=Value.str y t from rx); cases q; exact PySem.W.kia_one PySem.W.kitx_str I.kIn True.intro e (fun z=>nomatch z) fin
 | ref a =>
   cases (show u=Value.ref a from rx)
   rcases ty with ⟨rfl,xs,hq⟩ | ⟨rfl,xs,hq⟩ | ⟨rfl,kvs,hq⟩
   · obtain ⟨its,_,p,_⟩:=I.list hq
     obtain ⟨o,n',h1,h2,_⟩:=p
     exact PySem.W.kia_one PySem.W.kitx_list I.kIn ⟨o,h1,h2⟩ e (fun z=>nomatch z) fin
   · obtain ⟨its,_,p,_⟩:=I.tuple hq
     obtain ⟨o,h1,h2,_⟩:=p
     exact PySem.W.kia_one PySem.W.kitx_tuple I.kIn ⟨o,h1,h2⟩ e (fun z=>nomatch z) fin
   · obtain ⟨_,_,vs,_,p⟩:=(show ObjOk X.prog X.w H s.heap a (.dK kvs) from I.hok a _ hq)
     obtain ⟨o,es,ep,h1,h2,_⟩:=p
     exact PySem.W.kia_one PySem.W.kitx_dict I.kIn ⟨o,h1,h2.1⟩ e (fun z=>nomatch z) fin
 | _=>exact (show False from ty).elim
def isBool:T→Bool
 | .bl _=>true
 | _=>false
def isList:T→Bool
 | .lst _=>true
 | _=>false
def isTuple:T→Bool
 | .tup _=>true
 | _=>false
def isDict:T→Bool
 | .dk _ _=>true
 | _=>false
def known:T→Bool
 | .dt _ _=>false
 | .df _ _ _=>false
 | .dz _ _ _=>false
 | .dc _ _ _=>false
 | .ds _ _=>false
 | .clo _ _=>false
 | .kt _=>false
 | .ins _ _ _=>false
 | .pin _ _=>false
 | .ob _=>false
 | .ty _=>false
 | _=>true
def InstOk (K:PySem.W.Frag) (n:String) (p:T→Bool):Prop:=∀ H A t v,known t=true→AtR K H A t v→∃ ty,Ty2 K H v ty∧PySem.W.kitOne K (.type ty) (.type n)=some (p t)
theorem inst_bool {K:PySem.W.Frag}:InstOk K "bool" isBool:=by
 intro H A t v hk h
 cases t with
 | non=>rw [h.non]; exact ⟨_,rfl,kit_NoneType_bool K⟩
 | bl b=>rw [h.bl]; exact ⟨_,rfl,kit_bool_bool K⟩
 | int b=>rw [h.int]; exact ⟨_,rfl,kit_int_bool K⟩
 | str b=>rw [h.str]; exact ⟨_,rfl,kit_str_bool K⟩
 | tup l=>obtain ⟨a,vs,rfl,q,_⟩:=h.tup; exact ⟨_,.inr (.inl ⟨rfl,_,q⟩),kit_tuple_bool K⟩
 | lst l=>obtain ⟨a,vs,rfl,q,_⟩:=h.lst; exact ⟨_,.inl ⟨rfl,_,q⟩,kit_list_bool K⟩
 | dk ks l=>obtain ⟨a,vs,rfl,_,q,_⟩:=h.dk; exact ⟨_,.inr (.inr ⟨rfl,_,q⟩),kit_dict_bool K⟩
 | ob _=>simp only [known] at hk; cases hk
 | dt _ _=>simp only [known] at hk; cases hk
 | df _ _ _=>simp only [known] at hk; cases hk
 | dz _ _ _=>simp only [known] at hk; cases hk
 | dc _ _ _=>simp only [known] at hk; cases hk
 | ds _ _=>simp only [known] at hk; cases hk
 | clo _ _=>simp only [known] at hk; cases hk
 | kt _=>simp only [known] at hk; cases hk
 | ins _ _ _=>simp only [known] at hk; cases hk
 | pin _ _=>simp only [known] at hk; cases hk
 | ty _=>simp only [known] at hk; cases hk
theorem inst_list {K:PySem.W.Frag}:InstOk K "list" isList:=by
 intro H A t v hk h
 cases t with
 | non=>rw [h.non]; exact ⟨_,rfl,kit_NoneType_list K⟩
 | bl b=>rw [h.bl]; exact ⟨_,rfl,kit_bool_list K⟩
 | int b=>rw [h.int]; exact ⟨_,rfl,kit_int_list K⟩
 | str b=>rw [h.str]; exact ⟨_,rfl,kit_str_list K⟩
 | tup l=>obtain ⟨a,vs,rfl,q,_⟩:=h.tup; exact ⟨_,.inr (.inl ⟨rfl,_,q⟩),kit_tuple_list K⟩
 | lst l=>obtain ⟨a,vs,rfl,q,_⟩:=h.lst; exact ⟨_,.inl ⟨rfl,_,q⟩,kit_list_list K⟩
 | dk ks l=>obtain ⟨a,vs,rfl,_,q,_⟩:=h.dk; exact ⟨_,.inr (.inr ⟨rfl,_,q⟩),kit_dict_list K⟩
 | ob _=>simp only [known] at hk; cases hk
 | dt _ _=>simp only [known] at hk; cases hk
 | df _ _ _=>simp only [known] at hk; cases hk
 | dz _ _ _=>simp only [known] at hk; cases hk
 | dc _ _ _=>simp only [known] at hk; cases hk
 | ds _ _=>simp only [known] at hk; cases hk
 | clo _ _=>simp only [known] at hk; cases hk
 | kt _=>simp only [known] at hk; cases hk
 | ins _ _ _=>simp only [known] at hk; cases hk
 | pin _ _=>simp only [known] at hk; cases hk
 | ty _=>simp only [known] at hk; cases hk
theorem inst_tuple {K:PySem.W.Frag}:InstOk K "tuple" isTuple:=by
 intro H A t v hk h
 cases t with
 | non=>rw [h.non]; exact ⟨_,rfl,kit_NoneType_tuple K⟩
 | bl b=>rw [h.bl]; exact ⟨_,rfl,kit_bool_tuple K⟩
 | int b=>rw [h.int]; exact ⟨_,rfl,kit_int_tuple K⟩
 | str b=>rw [h.str]; exact ⟨_,rfl,kit_str_tuple K⟩
 | tup l=>obtain ⟨a,vs,rfl,q,_⟩:=h.tup; exact ⟨_,.inr (.inl ⟨rfl,_,q⟩),kit_tuple_tuple K⟩
 | lst l=>obtain ⟨a,vs,rfl,q,_⟩:=h.lst; exact ⟨_,.inl ⟨rfl,_,q⟩,kit_list_tuple K⟩
 | dk ks l=>obtain ⟨a,vs,rfl,_,q,_⟩:=h.dk; exact ⟨_,.inr (.inr ⟨rfl,_,q⟩),kit_dict_tuple K⟩
 | ob _=>simp only [known] at hk; cases hk
 | dt _ _=>simp only [known] at hk; cases hk
 | df _ _ _=>simp only [known] at hk; cases hk
 | dz _ _ _=>simp only [known] at hk; cases hk
 | dc _ _ _=>simp only [known] at hk; cases hk
 | ds _ _=>simp only [known] at hk; cases hk
 | clo _ _=>simp only [known] at hk; cases hk
 | kt _=>simp only [known] at hk; cases hk
 | ins _ _ _=>simp only [known] at hk; cases hk
 | pin _ _=>simp only [known] at hk; cases hk
 | ty _=>simp only [known] at hk; cases hk
theorem inst_dict {K:PySem.W.Frag}:InstOk K "dict" isDict:=by
 intro H A t v hk h
 cases t with
 | non=>rw [h.non]; exact ⟨_,rfl,kit_NoneType_dict K⟩
 | bl b=>rw [h.bl]; exact ⟨_,rfl,kit_bool_dict K⟩
 | int b=>rw [h.int]; exact ⟨_,rfl,kit_int_dict K⟩
 | str b=>rw [h.str]; exact ⟨_,rfl,kit_str_dict K⟩
 | tup l=>obtain ⟨a,vs,rfl,q,_⟩:=h.tup; exact ⟨_,.inr (.inl ⟨rfl,_,q⟩),kit_tuple_dict K⟩
 | lst l=>obtain ⟨a,vs,rfl,q,_⟩:=h.lst; exact ⟨_,.inl ⟨rfl,_,q⟩,kit_list_dict K⟩
 | dk ks l=>obtain ⟨a,vs,rfl,_,q,_⟩:=h.dk; exact ⟨_,.inr (.inr ⟨rfl,_,q⟩),kit_dict_dict K⟩
 | ob _=>simp only [known] at hk; cases hk
 | dt _ _=>simp only [known] at hk; cases hk
 | df _ _ _=>simp only [known] at hk; cases hk
 | dz _ _ _=>simp only [known] at hk; cases hk
 | dc _ _ _=>simp only [known] at hk; cases hk
 | ds _ _=>simp only [known] at hk; cases hk
 | clo _ _=>simp only [known] at hk; cases hk
 | kt _=>simp only [known] at hk; cases hk
 | ins _ _ _=>simp only [known] at hk; cases hk
 | pin _ _=>simp only [known] at hk; cases hk
 | ty _=>simp only [known] at hk; cases hk
def fInst (f:FE) (p:T→Bool):FP:=fun ρ Q=>f ρ fun t=>known t=true∧Q (.vw (.bl (p t)))
section
variable {X:Cx} {Z:Zc} {e a b c:Expr} {es:List Expr} {pos p p2:Pos} {fa fb fcc:FE}
theorem b_isinstance:bootBuiltins "isinstance" = some (.builtin "isinstance"):=by decide +kernel
theorem vp_inst {n:String} {y:Str} {q:T→Bool} (hq:InstOk X.K n q) (hg:Gl X "isinstance") (hm:X.mg "isinstance" = none) (hgy:Gl X y) (hmy:X.mg y=none) (hby:bootBuiltins y=some (.type n)) (ha:VR X Z e fa)
  (hny:y≠"__name__":=by decide) (hdy:(y == ("__debug__" : Str))=false:=by decide)
  (hs:starEach [e,.Name y p2] X.env=(false,eval e X.env) :: starEach [.Name y p2] X.env:=by rfl) (hs2:starEach [.Name y p2] X.env=(false,eval (.Name y p2) X.env) :: starEach [] X.env:=by rfl) (hpl:(backTo pos (starEach [.Name y p2] X.env)).any (·.1)=false:=by rfl) :
  VP X Z (.Call (.Name "isinstance" p) [e,.Name y p2] [] pos) (fInst fa q):=.mk fun tm =>
 PE.weak (pe_callB call_inst hg hm b_isinstance (pa_cons (ha tm) (pa_cons (pe_bltn (v:=.ty n) hgy hmy hby rfl hny hdy) pa_nil hs2) hs) (by decide) (by decide) hs hpl) fun σ H Q ⟨ρ,O,q',I,hf,k⟩=>⟨ρ,O,_,I,hf,fun t ht v H1 s1 a1=>by
  obtain ⟨ty,h1,h2⟩:=hq H1 _ t v ht.1 a1
  exact ⟨v,n,ty,_,rfl,h1,h2,k _ ht.2 _ H1 s1 ⟨I.same s1,at_bl⟩⟩⟩
def flatT:T→Bool
 | .non=>true
 | .bl _=>true
 | .int _=>true
 | .str _=>true
 | _=>false
def flats:List T→Bool
 | []=>true
 | t :: ts=>flatT t && flats ts
def inT (x:T):List T→Bool
 | []=>false
 | t :: ts=>eqT t x || inT x ts
theorem flat_vals {K:PySem.W.Frag} {H:Hp} {A:List Addr}:∀ {ts:List T} {vs:List V} {x:T} {v:V},flats ts=true→flatT x=true→AtL K H A ts vs→At K H A x v→vs.all flatV=true∧flatV v=true∧inV v vs=inT x ts
 | [],vs,x,v,_,fx,h,hx=>by
   simp only [AtL] at h; subst h
   refine ⟨rfl,?_,rfl⟩
   cases x <;> simp only [At] at hx <;> first | (subst hx; rfl) | (simp only [flatT] at fx; cases fx)
 | t :: ts,vs,x,v,f,fx,h,hx=>by
   obtain ⟨u,r,rfl,h1,h2⟩:=h
   simp only [flats,Bool.and_eq_true] at f
   obtain ⟨i1,i2,i3⟩:=flat_vals f.2 fx h2 hx
   have ft:flatV u=true:=by
    cases t <;> simp only [At] at h1 <;> first | (subst h1; rfl) | (have:=f.1; simp only [flatT] at this; cases this)
   have e:eqV u v=eqT t x:=by
    cases t <;> simp only [At] at h1 <;> first
     | (have:=f.1; simp only [flatT] at this; cases this; done)
     | (subst h1
        cases x <;> simp only [At] at hx <;> first
         | (simp only [flatT] at fx; cases fx; done)
         | (subst hx; simp [eqV,eqT]; done))
   refine ⟨by simp [ft,i1],i2,?_⟩
   simp only [inT,inV,List.any_cons]
   congr 1
def rInU (K:PySem.W.Frag) (neg:Bool):R2:=fun x y H Q=>rIn K neg x y H Q∨∃ i j,x = .str i∧y = .str j∧Q (.bl (if neg then !(!(Builtin.Str.occurrences j i 0 j.length 1).isEmpty) else !(Builtin.Str.occurrences j i 0 j.length 1).isEmpty)) H
theorem op_inU:OpR X (compareOp .In) (rInU X.K false):=by
 intro pins s σ H x y v u Q I rx ry h
 rcases h with h | ⟨i,j,h1,h2,h⟩
 · exact op_in_seq pins s σ H x y v u Q I rx ry h
 · exact op_in_str pins s σ H x y v u Q I rx ry ⟨i,j,h1,h2,by simpa using h⟩
theorem op_notInU:OpR X (compareOp .NotIn) (rInU X.K true):=by
 intro pins s σ H x y v u Q I rx ry h
 rcases h with h | ⟨i,j,h1,h2,h⟩
 · exact op_notIn_seq pins s σ H x y v u Q I rx ry h
 · exact op_notIn_str pins s σ H x y v u Q I rx ry ⟨i,j,h1,h2,by simpa using h⟩
def strIn (i j:Str):Bool:=!(Builtin.Str.occurrences j i 0 j.length 1).isEmpty
def pIn (x y:T) (q:Rt→Prop):Prop:=match y with
 | .lst ts=>flatT x=true∧flats ts=true∧q (.vw (.bl (inT x ts)))
 | .tup ts=>flatT x=true∧flats ts=true∧q (.vw (.bl (inT x ts)))
 | .str j=>∃ i,x = .str i∧q (.vw (.bl (strIn i j)))
 | _=>False
def pNin (x y:T) (q:Rt→Prop):Prop:=match y with
 | .lst ts=>flatT x=true∧flats ts=true∧q (.vw (.bl (!inT x ts)))
 | .tup ts=>flatT x=true∧flats ts=true∧q (.vw (.bl (!inT x ts)))
 | .str j=>∃ i,x = .str i∧q (.vw (.bl (!strIn i j)))
 | _=>False
theorem opT_in {K:PySem.W.Frag}:OpT K (rInU K false) pIn:=by
 intro Z tm O ρ σ H x y v w q Q I h1 h2 h k
 have x1:flatT x=true→At K H (av Z O) x v:=fun f=>by
  rcases h1 with h | ⟨a,rfl,h⟩
  · exact h
  · cases x <;> first | exact h.elim | (simp only [flatT] at f; cases f)
 unfold pIn at h
 split at h
 · obtain ⟨f1,f2,h⟩:=h
   obtain ⟨a,vs,rfl,q1,q2⟩:=h2.lst
   obtain ⟨i1,i2,i3⟩:=flat_vals f2 f1 q2 (x1 f1)
   exact .inl ⟨a,vs,rfl,.inl q1,i2,i1,k _ h _ H (Same.refl H) ⟨I,by rw [if_neg Bool.false_ne_true,i3]; exact at_bl⟩⟩
 · obtain ⟨f1,f2,h⟩:=h
   obtain ⟨a,vs,rfl,q1,q2⟩:=h2.tup
   obtain ⟨i1,i2,i3⟩:=flat_vals f2 f1 q2 (x1 f1)
   exact .inl ⟨a,vs,rfl,.inr q1,i2,i1,k _ h _ H (Same.refl H) ⟨I,by rw [if_neg Bool.false_ne_true,i3]; exact at_bl⟩⟩
 · obtain ⟨i,rfl,h⟩:=h
   exact .inr ⟨i,_,h1.str,h2.str,k _ h _ H (Same.refl H) ⟨I,by rw [if_neg Bool.false_ne_true]; exact at_bl⟩⟩
 · exact h.elim
theorem opT_nin {K:PySem.W.Frag}:OpT K (rInU K true) pNin:=by
 intro Z tm O ρ σ H x y v w q Q I h1 h2 h k
 have x1:flatT x=true→At K H (av Z O) x v:=fun f=>by
  rcases h1 with h | ⟨a,rfl,h⟩
  · exact h
  · cases x <;> first | exact h.elim | (simp only [flatT] at f; cases f)
 unfold pNin at h
 split at h
 · obtain ⟨f1,f2,h⟩:=h
   obtain ⟨a,vs,rfl,q1,q2⟩:=h2.lst
   obtain ⟨i1,i2,i3⟩:=flat_vals f2 f1 q2 (x1 f1)
   exact .inl ⟨a,vs,rfl,.inl q1,i2,i1,k _ h _ H (Same.refl H) ⟨I,by rw [if_pos rfl,i3]; exact at_bl⟩⟩
 · obtain ⟨f1,f2,h⟩:=h
   obtain ⟨a,vs,rfl,q1,q2⟩:=h2.tup
   obtain ⟨i1,i2,i3⟩:=flat_vals f2 f1 q2 (x1 f1)
   exact .inl ⟨a,vs,rfl,.inr q1,i2,i1,k _ h _ H (Same.refl H) ⟨I,by rw [if_pos rfl,i3]; exact at_bl⟩⟩
 · obtain ⟨i,rfl,h⟩:=h
   exact .inr ⟨i,_,h1.str,h2.str,k _ h _ H (Same.refl H) ⟨I,by rw [if_pos rfl]; exact at_bl⟩⟩
 · exact h.elim
theorem vp_nin (ha:VR X Z a fa) (hb:VR X Z b fb) (hm:behindInMarks .NotIn b=false:=by rfl):VP X Z (.Compare a [.NotIn] [b] pos) (f2 fa fb pNin):=vp_cmp op_notInU opT_nin ha hb hm
theorem vc_in (ha:VR X Z a fa) (hb:VR X Z b fb) (hm:behindInMarks .In b=false:=by rfl):VC X Z (.Compare a [.In] [b] pos) (fTst (f2 fa fb pIn)):=vc_cmp op_inU opT_in ha hb hm
def isNon:T→Bool
 | .non=>true
 | _=>false
def pIs (x y:T) (q:Rt→Prop):Prop:=match y with
 | .non=>q (.vw (.bl (isNon x)))
 | _=>False
theorem non_iff {K:PySem.W.Frag} {H:Hp} {A:List Addr} {t:T} {v:V} (h:AtR K H A t v):decide (v = .non)=isNon t:=by
 cases t with
 | non=>rw [h.non]; rfl
 | bl b=>rw [h.bl]; rfl
 | int b=>rw [h.int]; rfl
 | str b=>rw [h.str]; rfl
 | ob b=>rw [h.ob]; rfl
 | ty b =>
   have:=h.elim (fun q=>by simpa only [At] using q) fun ⟨_,_,q⟩=>q.elim
   rw [this]; rfl
 | tup l=>obtain ⟨a,vs,rfl,_⟩:=h.tup; rfl
 | lst l=>obtain ⟨a,vs,rfl,_⟩:=h.lst; rfl
 | dk ks l=>obtain ⟨a,vs,rfl,_⟩:=h.dk; rfl
 | dt ks l=>obtain ⟨a,vs,rfl,_⟩:=h.dt; rfl
 | df o ks l=>obtain ⟨a,vs,rfl,_⟩:=h.df; rfl
 | dz o ks l=>obtain ⟨a,vs,rfl,_⟩:=h.dz; rfl
 | dc nh ks l=>obtain ⟨a,xs,vs,rfl,_⟩:=h.dc; rfl
 | ds nh ks=>obtain ⟨a,xs,rfl,_⟩:=h.ds; rfl
 | clo F l=>obtain ⟨a,xs,rfl,_⟩:=h.clo; rfl
 | kt k=>obtain ⟨a,rfl,_⟩:=h.kt; rfl
 | ins C ns l=>obtain ⟨a,dx,vs,rfl,_⟩:=h.ins; rfl
 | pin a t =>
   have e:=h.elim (fun q=>by simp only [At] at q; exact q.1) fun ⟨_,_,q⟩=>q.elim
   rw [e]; rfl
theorem opT_is {K:PySem.W.Frag}:OpT K (fun x y H Q=>y = .non∧Q (.bl (decide (x = .non))) H) pIs:=by
 intro Z tm O ρ σ H x y v w q Q I h1 h2 h k
 unfold pIs at h
 split at h
 · exact ⟨h2.non,k _ h _ H (Same.refl H) ⟨I,by rw [non_iff h1]; exact at_bl⟩⟩
 · exact h.elim
theorem vc_is (ha:VR X Z a fa) (hb:VR X Z b fb):VC X Z (.Compare a [.Is] [b] pos) (fTst (f2 fa fb pIs)):=vc_cmp op_isN opT_is ha hb (nomark _)
def intsOf:List T→Option (List Int)
 | []=>some []
 | .int b :: ts=>(intsOf ts).map (b :: ·)
 | _=>none
theorem ints_at {K:PySem.W.Frag} {H:Hp} {A:List Addr}:∀ {ts:List T} {bs:List Int} {vs:List V},intsOf ts=some bs→AtL K H A ts vs→vs=bs.map V.int
 | [],bs,vs,e,h=>by simp only [intsOf] at e; cases e; simp only [AtL] at h; rw [h]; rfl
 | .int b :: ts,bs,vs,e,h=>by
   simp only [intsOf] at e
   cases q:intsOf ts with
   | none=>rw [q] at e; cases e
   | some cs =>
     rw [q] at e
     cases e
     obtain ⟨v,r,rfl,rfl,h⟩:=h
     rw [ints_at q h]; rfl
 | .non :: _,_,_,e,_=>by simp [intsOf] at e
 | .bl _ :: _,_,_,e,_=>by simp [intsOf] at e
 | .str _ :: _,_,_,e,_=>by simp [intsOf] at e
 | .tup _ :: _,_,_,e,_=>by simp [intsOf] at e
 | .lst _ :: _,_,_,e,_=>by simp [intsOf] at e
 | .dk _ _ :: _,_,_,e,_=>by simp [intsOf] at e
 | .dt _ _ :: _,_,_,e,_=>by simp [intsOf] at e
 | .df _ _ _ :: _,_,_,e,_=>by simp [intsOf] at e
 | .dz _ _ _ :: _,_,_,e,_=>by simp [intsOf] at e
 | .dc _ _ _ :: _,_,_,e,_=>by simp [intsOf] at e
 | .ds _ _ :: _,_,_,e,_=>by simp [intsOf] at e
 | .clo _ _ :: _,_,_,e,_=>by simp [intsOf] at e
 | .kt _ :: _,_,_,e,_=>by simp [intsOf] at e
 | .ins _ _ _ :: _,_,_,e,_=>by simp [intsOf] at e
 | .pin _ _ :: _,_,_,e,_=>by simp [intsOf] at e
 | .ob _ :: _,_,_,e,_=>by simp [intsOf] at e
 | .ty _ :: _,_,_,e,_=>by simp [intsOf] at e
def pSum (ts:List T) (q:Rt→Prop):Prop:=match ts with
 | [.lst l]=>∃ ns,intsOf l=some ns∧q (.vw (.int ns.sum))
 | _=>False
theorem callT_sum {K:PySem.W.Frag}:CallT K (fun xs H Q=>∃ (p:Addr) (ns:List Int),xs=[.ref p]∧SqL K H p (ns.map V.int)∧Q (.int ns.sum) H) pSum:=by
 intro Z tm O ρ σ H ts vs q Q I h hp k
 unfold pSum at hp
 split at hp
 · obtain ⟨bs,e,hp⟩:=hp
   obtain ⟨v,rfl,a⟩:=paired1 h
   obtain ⟨p,ws,rfl,q1,q2⟩:=a.lst
   rw [ints_at e q2] at q1
   exact ⟨p,bs,rfl,q1,k _ hp _ H (Same.refl H) ⟨I,at_int⟩⟩
 · exact hp.elim
end
end VT
namespace VT
open PySem PySem.Spec PyProof.Rows L2
structure Df (K:PySem.W.Frag) (mg:Str→Option Value) (x:Str) (st:Stmt) (ps:List Str) (f:Addr) (fd:FuncData):Prop where
 F:Fun K x x st f fd
 m:mg x=some (.ref f)
 b:Binds K fd ps []
def Cal (P:Program) (w:World) (K:PySem.W.Frag) (mg:Str→Option Value) (base:Heap) (x:Str) (ps:List Str) (k:Nat) (sp:Sp):Prop :=
 ∃ f fd,mg x=some (.ref f)∧PySem.W.keepIn K (.ref f)=true∧Binds K fd ps []∧FnOk P w K mg base CX0 k f fd ps sp
theorem Df.cal {P:Program} {w:World} {K:PySem.W.Frag} {mg:Str→Option Value} {base:Heap} {x:Str} {st:Stmt} {ps:List Str} {f:Addr} {fd:FuncData} {k:Nat} {sp:Sp} (D:Df K mg x st ps f fd) (F:FnOk P w K mg base CX0 k f fd ps sp):Cal P w K mg base x ps k sp :=
 ⟨f,fd,D.m,D.F.kp,D.b,F⟩
theorem np0 {H:Hp} {Ox:List Addr} {i:Nat}:NotPar ⟨H,[],Ox⟩ i:=fun _ z=>nomatch z
section
variable {P:Program} {w:World} {K:PySem.W.Frag} {mg:Str→Option Value} {base:Heap}
theorem fnP {x qual:Str} {st:Stmt} {f:Addr} {fd:FuncData} {N ps:List Str} {k n:Nat} {G:List T→(Rt→Prop)→Prop} (F:Fun K x qual st f fd) (S:FnScope N ps (defScope st)) (hn:n=ps.length)
  (hbody:∀ (cdv:Value) (A:Around) (outer:List Env) (s:Shared) (H:Hp) (E:XK) (Ox:List Addr),Room k (A.deeper (envOfC qual (defScope st) s.heap.objs.size f cdv))→∀ ts q,G ts q →
    ∃ g,VSs (cxOf CX0 P w K mg base N qual (defScope st) f cdv A outer s H E).nox ⟨H,[],Ox⟩ (defBody st) g∧(ts.length=n→g { nx:=fun _=>q (.vw .non),rt:=fun _ r=>q r } (ts.map (fun t=>some (t,false)) ++ List.replicate (N.length - ts.length) none))) :
  FnOk P w K mg base CX0 (k+1) f fd ps (spP K n G):=by
 have hp:∀ n as k,pz (List.replicate n false) as k=[]:=by
  intro n
  induction n with
  | zero=>intro as k; rfl
  | succ n ih=>intro as k; exact ih as (k+1)
 have hfi:∀ n ρ,fins (List.replicate n false) ρ=[]:=by
  intro n
  induction n with
  | zero=>intro ρ; rfl
  | succ n ih=>intro ρ; exact ih ρ.tail
 have he:∀ n ts,ts.length=n→en0 (List.replicate n false) ts=ts.map fun t=>some (t,false):=by
  intro n
  induction n with
  | zero=>intro ts e; cases ts <;> simp_all [en0]
  | succ n ih =>
    intro ts e
    cases ts with
    | nil=>simp at e
    | cons t ts=>rw [List.replicate_succ,en0,ih ts (by simpa using e)]; rfl
 refine fnV F S (by rw [List.length_replicate]; exact hn) fun cdv A outer s H E as Ox hr ts q hl hG=>?_
 rw [List.length_replicate] at hl
 obtain ⟨g,h1,h2⟩:=hbody cdv A outer s H E Ox hr ts (q []) hG
 refine ⟨g,by rw [hp]; exact h1,?_⟩
 rw [he n ts hl]
 simp only [hfi]
 exact h2 hl
end
theorem Room.u101 {k:Nat} {A:Around} (r:Room k A):A.units+101 < cLine:=by have:=r.un; lia
theorem b_list:bootBuiltins "list" = some (.type "list"):=by decide +kernel
theorem b_tuple:bootBuiltins "tuple" = some (.type "tuple"):=by decide +kernel
theorem b_sum:bootBuiltins "sum" = some (.builtin "sum"):=by decide +kernel
theorem b_min:bootBuiltins "min" = some (.builtin "min"):=by decide +kernel
theorem b_bool:bootBuiltins "bool" = some (.type "bool"):=by decide +kernel
theorem b_dict:bootBuiltins "dict" = some (.type "dict"):=by decide +kernel
end VT
namespace VT
open PySem PySem.Spec PyProof.Rows L2
theorem pz_flag:∀ {fs:List Bool} {as:List Addr} {k:Nat},∀ p∈pz fs as k,k≤p.1∧fs[p.1 - k]?=some true
 | [],_,_,p,hp=>nomatch hp
 | false :: fs,as,k,p,hp=>by
   obtain ⟨h1,h2⟩:=pz_flag (fs:=fs) p hp
   refine ⟨by lia,?_⟩
   have:p.1 - k=(p.1 - (k+1))+1:=by lia
   rw [this]; simpa using h2
 | true :: fs,a :: as,k,p,hp=>by
   rcases List.mem_cons.mp hp with z | z
   · subst z; exact ⟨Nat.le_refl _,by simp⟩
   · obtain ⟨h1,h2⟩:=pz_flag (fs:=fs) p z
     refine ⟨by lia,?_⟩
     have:p.1 - k=(p.1 - (k+1))+1:=by lia
     rw [this]; simpa using h2
 | true :: fs,[],k,p,hp=>by
   obtain ⟨h1,h2⟩:=pz_flag (fs:=fs) p hp
   refine ⟨by lia,?_⟩
   have:p.1 - k=(p.1 - (k+1))+1:=by lia
   rw [this]; simpa using h2
theorem np_pz {H:Hp} {fs:List Bool} {as Ox:List Addr} {i:Nat} (h:fs[i]?≠some true):NotPar ⟨H,pz fs as 0,Ox⟩ i:=fun p hp e=>by
 have:=(pz_flag p hp).2
 rw [Nat.sub_zero,e] at this
 exact h this
theorem loop_map {α:Type} {f:α→T} {xs:List α} {h:FG} {g:FS} {d:VEn} {ρ:En} (Pv:Nat→En→Prop) (h0:Pv 0 ρ) (hs:∀ (i:Nat) x ρ',xs[i]?=some x→Pv i ρ'→h (f x) ρ' fun ρ2=>g { nx:=Pv (i+1),ct:=Pv (i+1),bk:=d.nx,rt:=d.rt } ρ2)
 (hd:∀ ρ',Pv xs.length ρ'→d.nx ρ'):LoopW (xs.map f) h g d ρ:=⟨Pv,h0,fun i t ρ' e p=>by
   rw [List.getElem?_map] at e
   cases q:xs[i]? with
   | none=>rw [q] at e; cases e
   | some x=>rw [q] at e; cases e; exact hs i x ρ' q p,fun ρ' p=>hd ρ' (by rw [List.length_map] at p; exact p)⟩
theorem iteB {c:Bool} {A B:Prop} (hc:c=true) (h:A):if c=true then A else B:=by rw [if_pos hc]; exact h
theorem iteN {c:Bool} {A B:Prop} (hc:c=false) (h:B):if c=true then A else B:=by rw [if_neg (by rw [hc]; exact Bool.false_ne_true)]; exact h
theorem iteD {c A B:Prop} [Decidable c] (h1:c→A) (h2:¬ c→B):if decide c=true then A else B:=by
 by_cases h:c
 · rw [if_pos (decide_eq_true h)]; exact h1 h
 · rw [if_neg (by rw [decide_eq_false h]; exact Bool.false_ne_true)]; exact h2 h
end VT
namespace VT
open PySem PySem.Spec PyProof.Rows L2
section
variable {prog:Program} {w:World} {A:Around} {E:Value→Shared→Prop} {s:Shared}
theorem nextOf_tuple_item {it t:Addr} {i:Nat} {items:Array Value} {x:Value} {Q:Value→Shared→Prop} (hit:s.heap.IsTupleIter it t i) (ht:s.heap.IsTuple t items) (hx:items[i]?=some x)
  (hQ:∀ h',h'.IsTupleIter it t (i+1)→Heap.SameBut it s.heap h'→Q x { s with heap:=h' }):wpAny (model prog w) A (Builtin.SmallTypes.nextOf (.ref it)) Q E s:=by
 obtain ⟨o,ho,hc,hd⟩:=id hit
 obtain ⟨ol,hol,_,nl,hdl⟩:=ht
 refine wpAny_bind (wpAny_callSpecial?_slot hit.typeIs F.slot_tuple_iterator_next
  (wpAny_call_entry F.slot_tuple_iterator_next hit.typeIs F.entry_tuple_iterator_next ?_ (F.args_tuple_iterator_next_1 _)))
 show wpAny _ _ (field (.ref it) 0 >>= _) _ _ s
 refine wpAny_bind (wpAny_field ho hd rfl (wpAny_bind (wpAny_field ho hd rfl (wpAny_bind (wpAny_seqItems hol hdl ?_)))))
 simp only [Int.toNat_natCast,hx]
 refine wpAny_bind (wpAny_setField ho hd (by simp) (wpAny_pure ⟨x,rfl,wpAny_pure (hQ _ ?_ (Heap.SameBut.update ..))⟩))
 exact ⟨_,Heap.get?_update_self _ ho (Obj.isFreed_of_fields (Obj.data_mapFields hd _)),(Obj.cls_mapFields ..).trans hc,by
  rw [Obj.data_mapFields hd]; simp [rawInt]⟩
theorem nextOf_tuple_end {it t:Addr} {i:Nat} {items:Array Value} {Q:Value→Shared→Prop} (hh:A.handled=none) (hit:s.heap.IsTupleIter it t i) (ht:s.heap.IsTuple t items) (hx:items[i]?=none)
  (hE:∀ h' e,Heap.ExtBut it s.heap h'→(∃ o,h'.get? e=some o∧o.cls = .type "StopIteration")→E (.ref e) { s with heap:=h' }):wpAny (model prog w) A (Builtin.SmallTypes.nextOf (.ref it)) Q E s:=by
 obtain ⟨o,ho,hc,hd⟩:=id hit
 obtain ⟨ol,hol,_,nl,hdl⟩:=ht
 refine wpAny_bind (wpAny_callSpecial?_slot hit.typeIs F.slot_tuple_iterator_next
  (wpAny_call_entry F.slot_tuple_iterator_next hit.typeIs F.entry_tuple_iterator_next ?_ (F.args_tuple_iterator_next_1 _)))
 show wpAny _ _ (field (.ref it) 0 >>= _) _ _ s
 refine wpAny_bind (wpAny_field ho hd rfl (wpAny_bind (wpAny_field ho hd rfl (wpAny_bind (wpAny_seqItems hol hdl ?_)))))
 simp only [Int.toNat_natCast,hx]
 refine wpAny_bind (wpAny_rule (wpAny_bind (wpAny_setField ho hd (by simp) (wpAny_bind (wpAny_bind (m:=firstArgMember _ _) (wpAny_of_eq (by first | rfl | (simp only [firstArgMember]; rfl)) (wpAny_newObj_type (wpAny_bind (wpAny_handled ?_)) (by size_fits))))))))
 first | rw [show A.in1.handled=none from hh] | rw [hh]
 exact wpAny_bind (wpAny_pure (wpAny_throw (hE _ _ (((Heap.SameBut.update ..).extBut.push _).push _) ⟨_,Heap.get?_push_size _ rfl,rfl⟩)))
end
structure Part (prog:Program) (w:World) (i:Addr) (fp:List Addr) (n:Nat) (Pv:Nat→Value→Prop) (st:Nat→Heap→Prop):Prop where
 draws:∀ A:Around,A.handled=none→Draws prog w A i fp n Pv st
 mem:i∈fp
 fld:∀ k h,st k h→∃ o vs,h.get? i=some o∧o.data = .fields vs
theorem part_list {prog:Program} {w:World} (it l:Addr) (hne:l≠it) (items:Array Value):Part prog w it [it,l] items.size (fun i v=>items[i]?=some v) (fun i h=>h.IsListIter it l i∧h.IsList l items) :=
 ⟨fun A hh=>Draws.list hh it l hne items,by simp,fun k h st=>let ⟨⟨o,e,_,d⟩,_⟩:=st; ⟨o,_,e,d⟩⟩
theorem part_tuple {prog:Program} {w:World} (it l:Addr) (hne:l≠it) (items:Array Value):Part prog w it [it,l] items.size (fun i v=>items[i]?=some v) (fun i h=>h.IsTupleIter it l i∧h.IsTuple l items) :=
 ⟨fun A hh=>{ live:=fun _ _ st=>let ⟨o,ho,_⟩:=st.1; ⟨o,ho⟩
              frame:=fun _ _ _ st hk=>⟨let ⟨o,ho,r⟩:=st.1; ⟨o,hk it (by simp) o ho,r⟩,let ⟨o,ho,r⟩:=st.2; ⟨o,hk l (by simp) o ho,r⟩⟩
              item:=fun i s Q E hi st hQ=>nextOf_tuple_item st.1 st.2 (x:=items[i]) (by simp [hi]) fun h' hit' hs'=>hQ _ h' s.toks (by simp [hi]) ⟨hit',st.2.extBut hs'.extBut hne⟩ hs'
              done:=fun s Q E st hE=>nextOf_tuple_end hh st.1 st.2 (by simp) hE },by simp,fun k h st=>let ⟨⟨o,e,_,d⟩,_⟩:=st; ⟨o,_,e,d⟩⟩
theorem part_str {prog:Program} {w:World} (it:Addr) (x:Str) (t:Tok):Part prog w it [it] x.cps.size (fun i v=>∃ c u,x.cps[i]?=some c∧v = .str ⟨#[c]⟩ u) (fun i h=>h.IsStrIter it (strIterType x) x t i):=by
 rcases strIter_cases x with z | z
 · rw [z]; exact ⟨fun A hh=>Draws.strAscii hh it x t,by simp,fun k h st=>let ⟨o,e,_,d⟩:=st; ⟨o,_,e,d⟩⟩
 · rw [z]; exact ⟨fun A hh=>Draws.strWide hh it x t,by simp,fun k h st=>let ⟨o,e,_,d⟩:=st; ⟨o,_,e,d⟩⟩
structure Apart (z TI TO i1 i2:Addr) (fp1 fp2:List Addr):Prop where
 TIz:TI≠z
 TOz:TO≠z
 i1z:i1≠z
 i2z:i2≠z
 TITO:TI≠TO
 TIi1:TI≠i1
 TIi2:TI≠i2
 TOi1:TO≠i1
 TOi2:TO≠i2
 i12:i1≠i2
 z1:z∉fp1
 z2:z∉fp2
 O1:TO∉fp1
 O2:TO∉fp2
 x1:i2∉fp1
 x2:i1∉fp2
section
variable {prog:Program} {w:World} {A:Around} {E:Value→Shared→Prop} {s:Shared} {z TI TO i1 i2:Addr} {fp1 fp2:List Addr} {n1 n2:Nat} {P1 P2:Nat→Value→Prop} {S1 S2:Nat→Heap→Prop}
theorem zip_item {k:Nat} {a b:Value} {Q:Value→Shared→Prop} (hh:A.handled=none) (D:Apart z TI TO i1 i2 fp1 fp2) (p1:Part prog w i1 fp1 n1 P1 S1) (p2:Part prog w i2 fp2 n2 P2 S2)
  (hz:IsZip s.heap z TI TO .none) (hTI:IsPair s.heap TI (.ref i1) (.ref i2)) (hTO:IsPair s.heap TO a b) (h1:S1 k s.heap) (h2:S2 k s.heap) (hx:k < n1) (hy:k < n2)
  (hQ:∀ x y h' tk,P1 k x→P2 k y→IsZip h' z TI TO (rawInt s.heap.objs.size)→IsPair h' TO x y→S1 (k+1) h'→S2 (k+1) h'→IsPair h' s.heap.objs.size x y→h'.objs.size=s.heap.objs.size+1 →
    (∀ c o,c≠z→c≠TO→c≠i1→c≠i2→s.heap.get? c=some o→h'.get? c=some o)→Q (.ref s.heap.objs.size) { s with heap:=h',toks:=tk }) :
  wpAny (model prog w) A (Builtin.«zip.__next__» ⟨[.ref z],[]⟩) (fun fin s'=>∃ v,fin = .done (.ret v)∧Q v s') E s:=by
 show wpAny _ _ (field (.ref z) 2 >>= _) _ _ _
 refine wpAny_bind (wpAny_field hz rfl rfl (wpAny_bind (wpAny_field hz rfl rfl (wpAny_bind (wpAny_seqItems hTI rfl (wpAny_bind (wpAny_bind (wpAny_field hz rfl rfl (wpAny_pure (wpAny_bind (wpAny_rule (wpAny_bind (wpAny_field hz rfl rfl (wpAny_bind (wpAny_setField_rec hz (by simp) fun h₁ hz₁ hs₁=>wpAny_bind ?_)))))))))))))))
 have f1:∀ {m h h' c},c∉fp1→S1 m h→Heap.SameBut c h h'→S1 m h':=fun {m h h' c} hc st sb=>(p1.draws A hh).frame m h h' st fun b hb o e=>sb.extBut b o (fun q=>hc (q▸hb)) e
 have f2:∀ {m h h' c},c∉fp2→S2 m h→Heap.SameBut c h h'→S2 m h':=fun {m h h' c} hc st sb=>(p2.draws A hh).frame m h h' st fun b hb o e=>sb.extBut b o (fun q=>hc (q▸hb)) e
 refine wpAny_bind (wpAny_bind (wpAny_onRaise (wpAny_bind ((p1.draws _ hh).item k _ _ _ hx (f1 D.z1 h1 hs₁) fun x h₂ tk₂ px h1₂ hs₂=>wpAny_pure ?_))))
 have hTO₂:=hs₂.extBut _ _ D.TOi1 (hs₁.extBut _ _ D.TOz hTO)
 refine wpAny_bind (wpAny_seqItems hTO₂ rfl (wpAny_bind (wpAny_updateSeq_pair hTO₂ fun h₃ hTO₃ hs₃=>wpAny_bind (wpAny_letGo (wpAny_pure ?_)))))
 refine wpAny_bind (wpAny_bind (wpAny_onRaise (wpAny_bind ((p2.draws _ hh).item k _ _ _ hy (f2 D.O2 (f2 D.x2 (f2 D.z2 h2 hs₁) hs₂) hs₃) fun y h₄ tk₄ py h2₄ hs₄=>wpAny_pure ?_))))
 have hTO₄:=hs₄.extBut _ _ D.TOi2 hTO₃
 refine wpAny_bind (wpAny_seqItems hTO₄ rfl (wpAny_bind (wpAny_updateSeq_pair hTO₄ fun h₅ hTO₅ hs₅=>?_)))
 replace hTO₅:IsPair h₅ TO x y:=hTO₅
 refine wpAny_bind (wpAny_letGo (wpAny_pure (wpAny_pure ?_)))
 refine wpAny_bind (wpAny_seqItems hTO₅ rfl (wpAny_bind (wpAny_newTuple ?_)))
 have hsz:h₅.objs.size=s.heap.objs.size:=by rw [hs₅.1,hs₄.1,hs₃.1,hs₂.1,hs₁.1]
 have hz₅:=hs₅.extBut _ _ D.TOz.symm (hs₄.extBut _ _ D.i2z.symm (hs₃.extBut _ _ D.TOz.symm (hs₂.extBut _ _ D.i1z.symm hz₁)))
 have hk₅:∀ c o,c≠z→c≠TO→c≠i1→c≠i2→s.heap.get? c=some o→h₅.get? c=some o:=fun c o c1 c2 c3 c4 e =>
  hs₅.extBut _ _ c2 (hs₄.extBut _ _ c4 (hs₃.extBut _ _ c2 (hs₂.extBut _ _ c3 (hs₁.extBut _ _ c1 e))))
 have h1₅:=f1 D.O1 (f1 D.x1 (f1 D.O1 h1₂ hs₃) hs₄) hs₅
 have h2₅:=f2 D.O2 h2₄ hs₅
 have hzlt:=Heap.lt_size hz₅
 refine wpAny_bind ?_
 have hz₆:IsZip (h₅.push { cls:=.type "tuple",data:=.seq #[x,y] }) z TI TO .ellipsis:=Heap.get?_push_of_some _ hz₅
 refine wpAny_bind (wpAny_setField_rec hz₆ (by simp) fun h₇ hz₇ hs₇=>wpAny_setField_rec hz₇ (by simp) fun h₈ hz₈ hs₈=>?_)
 have up:∀ c o,c≠z→h₅.get? c=some o→h₈.get? c=some o:=fun c o c1 e=>hs₈.extBut _ _ c1 (hs₇.extBut _ _ c1 (Heap.get?_push_of_some _ e))
 have hT₈:=hs₈.extBut _ _ (Nat.ne_of_gt hzlt) (hs₇.extBut _ _ (Nat.ne_of_gt hzlt) (Heap.get?_push_size _ rfl))
 have hz8:h₈.objs.size=h₅.objs.size+1:=by rw [hs₈.1,hs₇.1,Heap.size_push]
 have h1₈:=(p1.draws A hh).frame _ _ _ h1₅ fun b hb o e=>up b o (fun q=>D.z1 (q▸hb)) e
 have h2₈:=(p2.draws A hh).frame _ _ _ h2₅ fun b hb o e=>up b o (fun q=>D.z2 (q▸hb)) e
 rw [hsz] at hz₈ hT₈ hz8
 refine wpAny_pure ⟨_,rfl,?_⟩
 rw [hsz]
 exact hQ x y h₈ tk₄ px py hz₈ (up _ _ D.TOz hTO₅) h1₈ h2₈ hT₈ hz8 fun c o c1 c2 c3 c4 e=>up c o c1 (hk₅ c o c1 c2 c3 c4 e)
theorem zip_end {k:Nat} {a b:Value} {Q:PySem.Fin→Shared→Prop} (hh:A.handled=none) (D:Apart z TI TO i1 i2 fp1 fp2) (p1:Part prog w i1 fp1 n1 P1 S1) (p2:Part prog w i2 fp2 n2 P2 S2)
  (hz:IsZip s.heap z TI TO .none) (hTI:IsPair s.heap TI (.ref i1) (.ref i2)) (hTO:IsPair s.heap TO a b) (h1:S1 k s.heap) (h2:S2 k s.heap) (hend:k=n1∨(k < n1∧k=n2))
  (hE:∀ h' tk e,(∀ c o,c≠z→c≠TO→c≠i1→c≠i2→s.heap.get? c=some o→h'.get? c=some o)→(∃ o,h'.get? e=some o∧o.cls = .type "StopIteration")→E (.ref e) { s with heap:=h',toks:=tk }) :
  wpAny (model prog w) A (Builtin.«zip.__next__» ⟨[.ref z],[]⟩) Q E s:=by
 have f1:∀ {m h h' c},c∉fp1→S1 m h→Heap.SameBut c h h'→S1 m h':=fun {m h h' c} hc st sb=>(p1.draws A hh).frame m h h' st fun b hb o e=>sb.extBut b o (fun q=>hc (q▸hb)) e
 have f2:∀ {m h h' c},c∉fp2→S2 m h→Heap.SameBut c h h'→S2 m h':=fun {m h h' c} hc st sb=>(p2.draws A hh).frame m h h' st fun b hb o e=>sb.extBut b o (fun q=>hc (q▸hb)) e
 show wpAny _ _ (field (.ref z) 2 >>= _) _ _ _
 refine wpAny_bind (wpAny_field hz rfl rfl (wpAny_bind (wpAny_field hz rfl rfl (wpAny_bind (wpAny_seqItems hTI rfl (wpAny_bind (wpAny_bind (wpAny_field hz rfl rfl (wpAny_pure (wpAny_bind (wpAny_rule (wpAny_bind (wpAny_field hz rfl rfl (wpAny_bind (wpAny_setField_rec hz (by simp) fun h₁ hz₁ hs₁=>wpAny_bind (wpAny_bind (wpAny_bind (wpAny_onRaise ?_))))))))))))))))))
 rcases hend with rfl | ⟨hlt,rfl⟩
 · refine wpAny_bind ((p1.draws _ hh).done _ _ _ (f1 D.z1 h1 hs₁) fun h₂ e hs₂ he=>?_)
   obtain ⟨oe,hoe,hce⟩:=he
   have hz₂:=hs₂ _ _ D.i1z.symm hz₁
   have hez:e≠z:=fun x=>by subst x; rw [hz₂] at hoe; cases hoe; simp at hce
   refine wpAny_setField_rec hz₂ (by simp) fun h₃ _ hs₃=>hE h₃ _ e (fun c o c1 _ c3 _ x=>hs₃.extBut _ _ c1 (hs₂ _ _ c3 (hs₁.extBut _ _ c1 x))) ⟨oe,hs₃.extBut _ _ hez hoe,hce⟩
 · refine wpAny_bind ((p1.draws _ hh).item k _ _ _ hlt (f1 D.z1 h1 hs₁) fun x h₂ tk₂ px h1₂ hs₂=>wpAny_pure ?_)
   have hTO₂:=hs₂.extBut _ _ D.TOi1 (hs₁.extBut _ _ D.TOz hTO)
   refine wpAny_bind (wpAny_seqItems hTO₂ rfl (wpAny_bind (wpAny_updateSeq_pair hTO₂ fun h₃ hTO₃ hs₃=>wpAny_bind (wpAny_letGo (wpAny_pure (wpAny_bind (wpAny_bind (wpAny_onRaise (wpAny_bind ((p2.draws _ hh).done _ _ _ (f2 D.O2 (f2 D.x2 (f2 D.z2 h2 hs₁) hs₂) hs₃) fun h₄ e hs₄ he=>?_))))))))))
   obtain ⟨oe,hoe,hce⟩:=he
   have hz₄:=hs₄ _ _ D.i2z.symm (hs₃.extBut _ _ D.TOz.symm (hs₂.extBut _ _ D.i1z.symm hz₁))
   have hez:e≠z:=fun x=>by subst x; rw [hz₄] at hoe; cases hoe; simp at hce
   refine wpAny_setField_rec hz₄ (by simp) fun h₅ _ hs₅=>hE h₅ _ e (fun c o c1 c2 c3 c4 x=>hs₅.extBut _ _ c1 (hs₄ _ _ c4 (hs₃.extBut _ _ c2 (hs₂.extBut _ _ c3 (hs₁.extBut _ _ c1 x))))) ⟨oe,hs₅.extBut _ _ hez hoe,hce⟩
theorem pyNext_zip_item {k:Nat} {a b:Value} {Q:Option Value→Shared→Prop} (hh:A.handled=none) (D:Apart z TI TO i1 i2 fp1 fp2) (p1:Part prog w i1 fp1 n1 P1 S1) (p2:Part prog w i2 fp2 n2 P2 S2)
  (hz:IsZip s.heap z TI TO .none) (hTI:IsPair s.heap TI (.ref i1) (.ref i2)) (hTO:IsPair s.heap TO a b) (h1:S1 k s.heap) (h2:S2 k s.heap) (hx:k < n1) (hy:k < n2)
  (hQ:∀ x y h' tk,P1 k x→P2 k y→IsZip h' z TI TO (rawInt s.heap.objs.size)→IsPair h' TO x y→S1 (k+1) h'→S2 (k+1) h'→IsPair h' s.heap.objs.size x y→h'.objs.size=s.heap.objs.size+1 →
    (∀ c o,c≠z→c≠TO→c≠i1→c≠i2→s.heap.get? c=some o→h'.get? c=some o)→Q (some (.ref s.heap.objs.size)) { s with heap:=h',toks:=tk }):wpAny (model prog w) A (pyNext (.ref z)) Q E s:=by
 have hT:s.TypeIs (.ref z) "zip":=⟨_,hz,rfl⟩
 exact wpAny_bind (wpAny_attempt (wpAny_callSpecial?_slot hT F.slot_zip_next
  (wpAny_call_entry F.slot_zip_next hT F.entry_zip_next
    (zip_item hh D p1 p2 hz hTI hTO h1 h2 hx hy fun x y h' tk q1 q2 a1 a2 a3 a4 a5 a6 a7=>wpAny_pure (hQ x y h' tk q1 q2 a1 a2 a3 a4 a5 a6 a7)) (F.args_zip_next_1 _))))
theorem pyNext_zip_end {k:Nat} {a b:Value} {Q:Option Value→Shared→Prop} (hh:A.handled=none) (D:Apart z TI TO i1 i2 fp1 fp2) (p1:Part prog w i1 fp1 n1 P1 S1) (p2:Part prog w i2 fp2 n2 P2 S2)
  (hz:IsZip s.heap z TI TO .none) (hTI:IsPair s.heap TI (.ref i1) (.ref i2)) (hTO:IsPair s.heap TO a b) (h1:S1 k s.heap) (h2:S2 k s.heap) (hend:k=n1∨(k < n1∧k=n2))
  (hQ:∀ h' tk,(∀ c o,c≠z→c≠TO→c≠i1→c≠i2→s.heap.get? c=some o→h'.get? c=some o)→Q none { s with heap:=h',toks:=tk }):wpAny (model prog w) A (pyNext (.ref z)) Q E s:=by
 have hT:s.TypeIs (.ref z) "zip":=⟨_,hz,rfl⟩
 refine wpAny_bind (wpAny_attempt (wpAny_callSpecial?_slot hT F.slot_zip_next
  (wpAny_call_entry F.slot_zip_next hT F.entry_zip_next (zip_end hh D p1 p2 hz hTI hTO h1 h2 hend fun h' tk e hk he=>?_) (F.args_zip_next_1 _))))
 obtain ⟨o,ho,hc⟩:=he
 exact wpAny_bind (wpAny_isInstance ⟨o,ho,hc⟩ isSubtype_stop (wpAny_pure (hQ _ _ hk)))
end
end VT
set_option exponentiation.threshold 4000
namespace VT
open PySem PySem.Spec PyProof.Rows L2
def Big (i:Int):Prop:=i.natAbs < 2 ^ 2000
theorem Big.of {i:Int} (h1 : -(10 ^ 200)≤i) (h2:i≤10 ^ 200):Big i:=by
 unfold Big
 have e:(10:Nat) ^ 200 < 2 ^ 2000:=by decide
 have:i.natAbs≤10 ^ 200:=by
  have e2:((10 ^ 200:Nat):Int)=(10:Int) ^ 200:=by rw [Int.natCast_pow]; rfl
  generalize (10:Nat) ^ 200=m at *
  rw [← e2] at h1 h2
  lia
 exact Nat.lt_of_le_of_lt this e
theorem Big.bits {i:Int} (h:Big i):Builtin.Int.intBits i≤2000:=by
 unfold Builtin.Int.intBits
 split
 · exact Nat.zero_le _
 · have:i.natAbs.log2 < 2000:=by
    rcases Nat.eq_zero_or_pos i.natAbs with h0 | hp
    · rw [h0]; decide
    · exact (Nat.log2_lt (Nat.ne_of_gt hp)).mpr h
   lia
theorem Big.log {i:Int} (h:Big i):i.natAbs.log2 < 9000:=by
 rcases Nat.eq_zero_or_pos i.natAbs with h0 | hp
 · rw [h0]; decide
 · exact Nat.lt_trans ((Nat.log2_lt (Nat.ne_of_gt hp)).mpr h) (by decide)
def CMulB (i j:Int):Prop:=Big i∧Big j
def CDivB (i j:Int):Prop:=0 < j∧Big j
def CPowB (i j:Int):Prop:=0≤j∧j≤1000∧Big i
section
variable {X:Cx}
theorem op_mulB:OpR X (binaryOp .Mult) (rI CMulB fun i j=>.int (i * j)):=opI fun _ _ _ _ _ _ _ hc q =>
 mul_int q (IntMulOk.of_bits (Nat.le_trans hc.1.bits (by decide)) (Nat.le_trans hc.2.bits (by decide)))
theorem op_fdivB:OpR X (binaryOp .FloorDiv) (rI CDivB fun i j=>.int (i / j)):=opI fun i j _ _ _ _ _ hc q=>by
 have h1:(0:Int) < j:=hc.1
 exact floordiv_int (by lia) (by rw [Int.fdiv_eq_ediv_of_nonneg i (by lia)]; exact q) (.inl (PyProof.noPylong_of_log2 hc.2.log))
theorem op_powB:OpR X (binaryOp .Pow) (rI CPowB fun i j=>.int (i ^ j.toNat)):=opI fun i j _ _ _ _ _ hc q=>pow_int hc.1 (by
 have h1:=hc.2.2.bits
 have h2:=hc.2.1
 have h0:=hc.1
 have e:(2:Int) ^ 27=134217728:=by decide
 have:(Builtin.Int.intBits i:Int) * j≤2000 * 1000:=Int.mul_le_mul (by lia) h2 h0 (by decide)
 lia) q
end
def pMulB (x y:T) (q:Rt→Prop):Prop:=match x,y with
 | .int i,.int j=>(Big i∧Big j)∧q (.vw (.int (i * j)))
 | _,_=>False
theorem opT_MulB {K:PySem.W.Frag}:OpT K (rI CMulB fun i j=>.int (i * j)) pMulB:=by
 intro Z tm O ρ σ H x y v w q Q I h1 h2 h k
 unfold pMulB at h
 split at h
 · exact ⟨_,_,h1.int,h2.int,h.1,k _ h.2 _ H (Same.refl H) ⟨I,at_int⟩⟩
 · exact h.elim
def pDivB (x y:T) (q:Rt→Prop):Prop:=match x,y with
 | .int i,.int j=>(0 < j∧Big j)∧q (.vw (.int (i / j)))
 | _,_=>False
theorem opT_DivB {K:PySem.W.Frag}:OpT K (rI CDivB fun i j=>.int (i / j)) pDivB:=by
 intro Z tm O ρ σ H x y v w q Q I h1 h2 h k
 unfold pDivB at h
 split at h
 · exact ⟨_,_,h1.int,h2.int,h.1,k _ h.2 _ H (Same.refl H) ⟨I,at_int⟩⟩
 · exact h.elim
def pPowB (x y:T) (q:Rt→Prop):Prop:=match x,y with
 | .int i,.int j=>(0≤j∧j≤1000∧Big i)∧q (.vw (.int (i ^ j.toNat)))
 | _,_=>False
theorem opT_PowB {K:PySem.W.Frag}:OpT K (rI CPowB fun i j=>.int (i ^ j.toNat)) pPowB:=by
 intro Z tm O ρ σ H x y v w q Q I h1 h2 h k
 unfold pPowB at h
 split at h
 · exact ⟨_,_,h1.int,h2.int,h.1,k _ h.2 _ H (Same.refl H) ⟨I,at_int⟩⟩
 · exact h.elim
section
variable {X:Cx} {Z:Zc} {a b:Expr} {fa fb:FE} {pos:Pos}
theorem vp_mulB (ha:VR X Z a fa) (hb:VR X Z b fb):VP X Z (.BinOp a .Mult b pos) (f2 fa fb pMulB):=vp_bin op_mulB opT_MulB ha hb
theorem vp_fdivB (ha:VR X Z a fa) (hb:VR X Z b fb):VP X Z (.BinOp a .FloorDiv b pos) (f2 fa fb pDivB):=vp_bin op_fdivB opT_DivB ha hb
theorem vp_powB (ha:VR X Z a fa) (hb:VR X Z b fb):VP X Z (.BinOp a .Pow b pos) (f2 fa fb pPowB):=vp_bin op_powB opT_PowB ha hb
end
end VT
namespace VT
open PySem PySem.Spec PyProof.Rows L2
def IterOf (v:Value) (o:Obj) (c:Heap→Prop):Prop:=∀ (prog:Program) (w:World) (A:Around) (E:Value→Shared→Prop) (s:Shared) (Q:Value→Shared→Prop),c s.heap →
 Q (.ref s.heap.objs.size) { s with heap:=s.heap.push o }→wpAny (model prog w) A (pyIter v) Q E s
theorem iterOf_list (l:Addr) (items:Array Value):IterOf (.ref l) { cls:=.type "list_iterator",data:=.fields #[.ref l,.int 0 0] } (fun h=>h.IsList l items):=fun _ _ _ _ _ _ h q=>wpAny_pyIter_list h q
theorem iterOf_tuple (l:Addr) (items:Array Value):IterOf (.ref l) { cls:=.type "tuple_iterator",data:=.fields #[.ref l,.int 0 0] } (fun h=>h.IsTuple l items):=fun _ _ _ _ _ _ h q=>wpAny_pyIter_tuple h q
theorem iterOf_str (x:Str) (t:Tok):IterOf (.str x t) { cls:=.type (strIterType x),data:=.fields #[.str x t,.int 0 0] } (fun _=>True):=fun _ _ _ _ _ _ _ q=>wpAny_pyIter_strU q
abbrev zH3 (h:Heap) (o1 o2:Obj):Heap:=((h.push o1).push o2).push { cls:=.type "tuple",data:=.seq #[.ref h.objs.size,.ref (h.push o1).objs.size] }
abbrev zH4 (h:Heap) (o1 o2:Obj):Heap:=(zH3 h o1 o2).push { cls:=.type "tuple",data:=.seq #[.none,.none] }
abbrev zH5 (h:Heap) (o1 o2:Obj):Heap:=(zH4 h o1 o2).push { cls:=.type "zip",data:=.fields #[.none,.bool false,.bool false,.ref ((h.push o1).push o2).objs.size,.ref (zH3 h o1 o2).objs.size] }
theorem meets_zipG {v1 v2:Value} {o1 o2:Obj} {c1 c2:Heap→Prop} (i1:IterOf v1 o1 c1) (i2:IterOf v2 o2 c2) (hp2:∀ h o,c2 h→c2 (h.push o)) :
  Meets (Builtin.«zip.__new__» ⟨[.type "zip",v1,v2],[]⟩) (fun _ R s=>c1 s.heap∧c2 s.heap ∧
   R (.ok (.ret (.ref (zH4 s.heap o1 o2).objs.size))) { s with heap:=zH5 s.heap o1 o2 }) :=
 .of_wp fun prog w A R s h=>by
  obtain ⟨hp,g,d,tk,os⟩:=s; obtain ⟨hc1,hc2,h⟩:=h
  have hsub:=sub_zip
  have hC2:=hp2 _ o1 hc2
  have I1:=fun A E Q q=>i1 prog w A E _ Q hc1 q
  have I2:∀ A E Q,Q (.ref (hp.push o1).objs.size) ⟨(hp.push o1).push o2,g,d,tk,os⟩→wpAny (model prog w) A (pyIter v2) Q E ⟨hp.push o1,g,d,tk,os⟩:=fun A E Q q=>i2 prog w A E _ Q hC2 q
  wp_walk using I1,I2
  exact ⟨_,rfl,h⟩
section
variable {prog:Program} {w:World} {A:Around} {E:Value→Shared→Prop} {s:Shared}
theorem call_zipG {v1 v2:Value} {o1 o2:Obj} {c1 c2:Heap→Prop} {Q:Value→Shared→Prop} (i1:IterOf v1 o1 c1) (i2:IterOf v2 o2 c2) (hp2:∀ h o,c2 h→c2 (h.push o)) (h1:c1 s.heap) (h2:c2 s.heap) (hf1:o1.isFreed=false) (hf2:o2.isFreed=false)
  (h:∀ h',IsZip h' (s.heap.objs.size+4) (s.heap.objs.size+2) (s.heap.objs.size+3) .none→IsPair h' (s.heap.objs.size+2) (.ref s.heap.objs.size) (.ref (s.heap.objs.size+1)) →
    IsPair h' (s.heap.objs.size+3) .none .none→h'.get? s.heap.objs.size=some o1→h'.get? (s.heap.objs.size+1)=some o2→h'.objs.size=s.heap.objs.size+5 →
    (∀ c o,s.heap.get? c=some o→h'.get? c=some o)→Q (.ref (s.heap.objs.size+4)) { s with heap:=h' }) :
  wpAny (model prog w) A (call (.type "zip") [v1,v2]) Q E s:=by
 refine callType_new F.called_zip (by decide) (F.typeCall_zip_2 _ _) (F.newCall_zip_2 _ _) (fun obj=>F.args_object_init_3 obj _ _) F.entry_zip_new
  (meets_zipG i1 i2 hp2) ⟨h1,h2,?_⟩
 have z1:(s.heap.push o1).objs.size=s.heap.objs.size+1:=Heap.size_push ..
 have z2:((s.heap.push o1).push o2).objs.size=s.heap.objs.size+2:=by rw [Heap.size_push,z1]
 have z3:(zH3 s.heap o1 o2).objs.size=s.heap.objs.size+3:=by rw [Heap.size_push,z2]
 have z4:(zH4 s.heap o1 o2).objs.size=s.heap.objs.size+4:=by rw [Heap.size_push,z3]
 have z5:(zH5 s.heap o1 o2).objs.size=s.heap.objs.size+5:=by rw [Heap.size_push,z4]
 have g5:(zH5 s.heap o1 o2).get? (zH4 s.heap o1 o2).objs.size=some _:=Heap.get?_push_size _ rfl
 have g4:(zH5 s.heap o1 o2).get? (zH3 s.heap o1 o2).objs.size=some _:=Heap.get?_push_of_some _ (Heap.get?_push_size _ rfl)
 have g3:(zH5 s.heap o1 o2).get? ((s.heap.push o1).push o2).objs.size=some _:=Heap.get?_push_of_some _ (Heap.get?_push_of_some _ (Heap.get?_push_size _ rfl))
 have g2:(zH5 s.heap o1 o2).get? (s.heap.push o1).objs.size=some _:=Heap.get?_push_of_some _ (Heap.get?_push_of_some _ (Heap.get?_push_of_some _ (Heap.get?_push_size _ hf2)))
 have g1:(zH5 s.heap o1 o2).get? s.heap.objs.size=some _:=Heap.get?_push_of_some _ (Heap.get?_push_of_some _ (Heap.get?_push_of_some _ (Heap.get?_push_of_some _ (Heap.get?_push_size _ hf1))))
 rw [z2,z3,z4] at g5
 rw [z1,z2] at g3
 rw [z3] at g4
 rw [z1] at g2
 rw [z4]
 exact ⟨⟨_,g5,rfl⟩,h _ g5 g3 g4 g1 g2 z5 fun c o x =>
  Heap.get?_push_of_some _ (Heap.get?_push_of_some _ (Heap.get?_push_of_some _ (Heap.get?_push_of_some _ (Heap.get?_push_of_some _ x))))⟩
end
structure ZSrc (P:Program) (w:World) (K:PySem.W.Frag) (i:Addr) (fp:List Addr) (sq:Hp→List V→Prop) (it:Nat→Heap→Prop):Prop where
 part:∀ (X:Cx) (pins:List (Addr×Obj)) (σ:St) (H:Hp) (s:Shared),X.prog=P→X.w=w→X.K=K→Inv X pins σ H s→∀ xs,sq H xs →
  ∃ (Pv:Nat→Value→Prop) (S:Nat→Heap→Prop),Part P w i fp xs.length Pv S∧(∀ k v,Pv k v→∃ x,xs[k]?=some x∧RelV x v)∧(∀ k h,S k h→it k h)∧∀ k,it k s.heap→S k s.heap
 keep:∀ k h h',it k h→(∀ o,h.get? i=some o→h'.get? i=some o)→it k h'
 obj:∀ k h,it k h→∃ o,h.get? i=some o∧∀ v,o.data≠.cell v
 inj:∀ (X:Cx) (pins:List (Addr×Obj)) (σ:St) (H:Hp) (s:Shared),X.K=K→Inv X pins σ H s→∀ xs ys,sq H xs→sq H ys→xs=ys
theorem src_list {P:Program} {w:World} {K:PySem.W.Frag} (i l:Addr) (hne:l≠i):ZSrc P w K i [i,l] (fun H xs=>SqL K H l xs) (fun k h=>h.IsListIter i l k) where
 part:=fun X pins σ H s hP hw hK I xs hq=>by
  subst hP hw hK
  obtain ⟨its,rv,p,hz⟩:=I.list hq
  have e:its.toArray.size=xs.length:=by simp [rv.length]
  refine ⟨_,_,e▸part_list i l hne its.toArray,fun k v hv=>?_,fun k h st=>st.1,fun k st=>⟨st,p.isList⟩⟩
  have hv':its[k]?=some v:=by simpa using hv
  have hk:k < xs.length:=by rw [← e]; simp; exact (List.getElem?_eq_some_iff.mp hv').1
  obtain ⟨u,hu,ru⟩:=rv.get (show xs[k]?=some xs[k] by simp)
  rw [hv'] at hu
  cases hu
  exact ⟨_,by simp,ru⟩
 keep:=fun k h h' st q=>st.at q
 obj:=fun k h st=>let ⟨o,e,_,d⟩:=st; ⟨o,e,fun v z=>by rw [d] at z; cases z⟩
 inj:=fun X pins σ H s hK I xs ys h1 h2=>by subst hK; exact I.list_inj h1 h2
theorem src_tuple {P:Program} {w:World} {K:PySem.W.Frag} (i l:Addr) (hne:l≠i):ZSrc P w K i [i,l] (fun H xs=>SqT K H l xs) (fun k h=>h.IsTupleIter i l k) where
 part:=fun X pins σ H s hP hw hK I xs hq=>by
  subst hP hw hK
  obtain ⟨its,rv,p,hz⟩:=I.tuple hq
  have e:its.toArray.size=xs.length:=by simp [rv.length]
  refine ⟨_,_,e▸part_tuple i l hne its.toArray,fun k v hv=>?_,fun k h st=>st.1,fun k st=>⟨st,p⟩⟩
  have hv':its[k]?=some v:=by simpa using hv
  have hk:k < xs.length:=by rw [← e]; simp; exact (List.getElem?_eq_some_iff.mp hv').1
  obtain ⟨u,hu,ru⟩:=rv.get (show xs[k]?=some xs[k] by simp)
  rw [hv'] at hu
  cases hu
  exact ⟨_,by simp,ru⟩
 keep:=fun k h h' st q=>let ⟨o,e,r⟩:=st; ⟨o,q o e,r⟩
 obj:=fun k h st=>let ⟨o,e,_,d⟩:=st; ⟨o,e,fun v z=>by rw [d] at z; cases z⟩
 inj:=fun X pins σ H s hK I xs ys h1 h2=>by subst hK; exact I.tuple_inj h1 h2
def chrs (x:Str):List V:=x.cps.toList.map fun c=>.str ⟨#[c]⟩
theorem src_str {P:Program} {w:World} {K:PySem.W.Frag} (i:Addr) (x:Str) (t:Tok):ZSrc P w K i [i] (fun _ xs=>xs=chrs x) (fun k h=>h.IsStrIter i (strIterType x) x t k) where
 part:=fun X pins σ H s hP hw hK I xs hq=>by
  subst hP hw hK hq
  have e:x.cps.size=(chrs x).length:=by unfold chrs; simp
  refine ⟨_,_,e▸part_str i x t,fun k v hv=>?_,fun k h st=>st,fun k st=>st⟩
  obtain ⟨c,u,h1,rfl⟩:=hv
  exact ⟨.str ⟨#[c]⟩,by unfold chrs; rw [List.getElem?_map]; simp [h1],u,rfl⟩
 keep:=fun k h h' st q=>let ⟨o,e,r⟩:=st; ⟨o,q o e,r⟩
 obj:=fun k h st=>let ⟨o,e,_,d⟩:=st; ⟨o,e,fun v z=>by rw [d] at z; cases z⟩
 inj:=fun X pins σ H s hK I xs ys h1 h2=>by rw [h1,h2]
section
variable {X:Cx} {pins:List (Addr×Obj)} {σ:St} {H H':Hp} {s:Shared} {h':Heap}
theorem turnedL {t':Nat} {ch:List Addr} (I:Inv X pins σ H s) (k:∀ b u,b∉ch→s.heap.get? b=some u→h'.get? b=some u) (hf:∀ b∈ch,FpOk X pins H b):Inv X pins σ H { s with heap:=h',toks:=t' }:=by
 have nch:∀ b u,H b=some u→b∉ch:=fun b u e z=>by rw [(hf b z).1] at e; cases e
 refine I.step (fun b hb=>?_) (fun b u _ _ hc e _=>k b u hc e) (fun b u _ _ hc e _=>⟨u.slots,k b u hc e⟩) (fun b u _ e n=>n) (fun b u hc e=>⟨u,k b u hc e⟩)
  (fun b xs e=>e) (fun b u v e=>e) (fun b ps e=>⟨#[],?_⟩) (fun m hm=>?_) (fun b u e=>?_) I.bare
 · obtain ⟨_,f1,_,f3,f4,f5⟩:=hf b hb
   exact ⟨f3,f1,f4,f5⟩
 · rw [e]; simp
 · obtain ⟨ob,es,ep,ho,r⟩:=hm
   exact ⟨ob,es,ep,k _ ob (fun z=>(hf _ z).2.1 rfl) ho,r⟩
 · refine (I.hok b u e).stay (fun c v hc q=>k c v ?_ q) (fun c q=>q) fun c xs q=>q
   rcases hc with z | z
   · rw [z]; exact nch b u e
   · exact nch c _ z
end
def Itz (sq1 sq2:Hp→List V→Prop):It :=
 ⟨fun i H=>∃ xs ys,sq1 H xs∧sq2 H ys∧i < xs.length∧i < ys.length,fun i H v H'=>∃ t x y,H t=none∧v = .ref t∧(∀ xs,sq1 H xs→xs[i]?=some x)∧(∀ ys,sq2 H ys→ys[i]?=some y)∧H'=upd H t (.tup [x,y]),
   fun i H=>∃ xs ys,sq1 H xs∧sq2 H ys∧(i=xs.length∨(i < xs.length∧i=ys.length))⟩
theorem turn_zip {P:Program} {w:World} {K:PySem.W.Frag} {elts:List Expr} {x1} {tp:Pos} {z TI TO i1 i2:Addr} {fp1 fp2:List Addr} {sq1 sq2:Hp→List V→Prop} {t1 t2:Nat→Heap→Prop} (D:Apart z TI TO i1 i2 fp1 fp2) (p1:ZSrc P w K i1 fp1 sq1 t1) (p2:ZSrc P w K i2 fp2 sq2 t2) :
  Turn P w K (.Tuple elts x1 tp) (Itz sq1 sq2) [z,TI,TO,i1,i2] z (fun i h=>IsZip h z TI TO .none∧IsPair h TI (.ref i1) (.ref i2)∧(∃ a b,IsPair h TO a b)∧t1 i h∧t2 i h) where
 mem:=by simp
 obj:=fun i h st b hb=>by
  obtain ⟨h1,h2,⟨a,c,h3⟩,h4,h5⟩:=st
  simp only [List.mem_cons,List.not_mem_nil,or_false] at hb
  rcases hb with rfl | rfl | rfl | rfl | rfl
  · exact ⟨_,h1,fun v q=>by cases q⟩
  · exact ⟨_,h2,fun v q=>by cases q⟩
  · exact ⟨_,h3,fun v q=>by cases q⟩
  · exact p1.obj i h h4
  · exact p2.obj i h h5
 keep:=fun i h h' st k=>by
  obtain ⟨h1,h2,⟨a,c,h3⟩,h4,h5⟩:=st
  exact ⟨k z (by simp) _ h1,k TI (by simp) _ h2,⟨a,c,k TO (by simp) _ h3⟩,p1.keep i h h' h4 fun o q=>k i1 (by simp) o q,p2.keep i h h' h5 fun o q=>k i2 (by simp) o q⟩
 item:=by
  intro X hP hw hK hc i pins s σ H E I hf st hg
  obtain ⟨xs,ys,hq1,hq2,l1,l2⟩:=hg
  obtain ⟨h1,h2,⟨a,c,h3⟩,h4,h5⟩:=st
  obtain ⟨P1,S1,q1,v1,b1,f1⟩:=p1.part X pins σ H s hP hw hK I xs hq1
  obtain ⟨P2,S2,q2,v2,b2,f2⟩:=p2.part X pins σ H s hP hw hK I ys hq2
  refine pyNext_zip_item (I.ok.hd hc) D q1 q2 h1 h2 h3 (f1 i h4) (f2 i h5) l1 l2 fun x y h₁ tk px py hz₁ hTO₁ s1 s2 hp₁ hsz hk=>?_
  obtain ⟨x',ex,rx⟩:=v1 i x px
  obtain ⟨y',ey,ry⟩:=v2 i y py
  refine ⟨_,rfl,wpAny_letOwnedTupleGo_zip hz₁ fun h₂ hz₂ hs₂=>?_⟩
  have hs₂':=hs₂
  have hlt:=Heap.lt_size h1
  have hte:=Nat.ne_of_gt hlt
  have kk:∀ b ob,b∉[z,TI,TO,i1,i2]→s.heap.get? b=some ob→h₂.get? b=some ob:=fun b ob hb q=>by
   simp only [List.mem_cons,List.not_mem_nil,or_false,not_or] at hb
   exact (hs₂'.2 b hb.1).trans (hk b ob hb.1 hb.2.2.1 hb.2.2.2.1 hb.2.2.2.2 q)
  have new:ObjOk X.prog X.w (upd H s.heap.objs.size (.tup [x',y'])) h₂ s.heap.objs.size (.tup [x',y']) :=
   ⟨by show 2≤sizeLine; rw [sizeLine_eq]; decide,[x,y],.cons rx (.cons ry .nil),⟨_,(hs₂'.2 _ hte).trans hp₁,rfl,_,rfl⟩⟩
  refine ⟨.ref s.heap.objs.size,upd H s.heap.objs.size (.tup [x',y']),I.grown kk hf (Nat.le_refl _) new,rfl,⟨_,x',y',I.fresh,rfl,fun zs hz=>by rw [p1.inj X pins σ H s hK I _ _ hz hq1]; exact ex,fun zs hz=>by rw [p2.inj X pins σ H s hK I _ _ hz hq2]; exact ey,rfl⟩,⟨hz₂,?_,⟨x,y,?_⟩,?_,?_⟩,fun b hb=>?_⟩
  · exact (hs₂'.2 TI D.TIz).trans (hk TI _ D.TIz D.TITO D.TIi1 D.TIi2 h2)
  · exact (hs₂'.2 TO D.TOz).trans hTO₁
  · exact p1.keep _ _ _ (b1 _ _ s1) fun o q=>(hs₂'.2 i1 D.i1z).trans q
  · exact p2.keep _ _ _ (b2 _ _ s2) fun o q=>(hs₂'.2 i2 D.i2z).trans q
  · have hbl:b < s.heap.objs.size:=by
     simp only [List.mem_cons,List.not_mem_nil,or_false] at hb
     rcases hb with rfl | rfl | rfl | rfl | rfl
     · exact hlt
     · exact Heap.lt_size h2
     · exact Heap.lt_size h3
     · obtain ⟨o,e,_⟩:=p1.obj i _ h4; exact Heap.lt_size e
     · obtain ⟨o,e,_⟩:=p2.obj i _ h5; exact Heap.lt_size e
    rw [upd_ne (Nat.ne_of_lt hbl)]
    exact (hf b hb).1
 done:=by
  intro X hP hw hK hc i pins s σ H E I hf st hg
  obtain ⟨xs,ys,hq1,hq2,he⟩:=hg
  obtain ⟨h1,h2,⟨a,c,h3⟩,h4,h5⟩:=st
  obtain ⟨P1,S1,q1,v1,b1,f1⟩:=p1.part X pins σ H s hP hw hK I xs hq1
  obtain ⟨P2,S2,q2,v2,b2,f2⟩:=p2.part X pins σ H s hP hw hK I ys hq2
  refine pyNext_zip_end (I.ok.hd hc) D q1 q2 h1 h2 h3 (f1 i h4) (f2 i h5) he fun h' tk hk=>⟨rfl,turnedL I (fun b u hb q=>?_) hf⟩
  simp only [List.mem_cons,List.not_mem_nil,or_false,not_or] at hb
  exact hk b u hb.1 hb.2.2.1 hb.2.2.2.1 hb.2.2.2.2 q
 self:=fun _ _ _ _ _ st h=>by
  obtain ⟨h1,_⟩:=st
  exact wpAny_pyIter_zip h1 h
end VT
namespace VT
open PySem PySem.Spec PyProof.Rows L2
inductive ZK (K:PySem.W.Frag) (H:Hp):V→(Hp→List V→Prop)→Prop where
 | lst {a:Addr} {xs:List V}:SqL K H a xs→ZK K H (.ref a) (fun H xs=>SqL K H a xs)
 | tup {a:Addr} {xs:List V}:SqT K H a xs→ZK K H (.ref a) (fun H xs=>SqT K H a xs)
 | str (z:Str):ZK K H (.str z) (fun _ xs=>xs=chrs z)
theorem zk_at {X:Cx} {pins:List (Addr×Obj)} {σ:St} {H:Hp} {s:Shared} {x:V} {u:Value} {sq:Hp→List V→Prop} (I:Inv X pins σ H s) (z:ZK X.K H x sq) (r:RelV x u) :
  ∃ (o:Obj) (c:Heap→Prop) (fp:List Addr) (it:Addr→Nat→Heap→Prop),IterOf u o c∧c s.heap∧(∀ h o,c h→c (h.push o))∧o.isFreed=false∧(∀ b∈fp,b < s.heap.objs.size) ∧
   ∀ i,s.heap.objs.size≤i→ZSrc X.prog X.w X.K i (i :: fp) sq (it i)∧∀ h,h.get? i=some o→it i 0 h:=by
 cases z with
 | lst hq =>
   rename_i a xs
   cases r
   obtain ⟨its,rv,p,hz⟩:=I.list hq
   have hl:a < s.heap.objs.size:=by obtain ⟨o,n,e,_⟩:=p; exact Heap.lt_size e
   refine ⟨_,_,[a],fun i k h=>h.IsListIter i a k,iterOf_list a its.toArray,p.isList,fun h o q=>Heap.IsList.push q _,rfl,fun b hb=>by rw [List.mem_singleton.mp hb]; exact hl,fun i hi=>⟨src_list i a (Nat.ne_of_lt (Nat.lt_of_lt_of_le hl hi)),fun h e=>⟨_,e,rfl,rfl⟩⟩⟩
 | tup hq =>
   rename_i a xs
   cases r
   obtain ⟨its,rv,p,hz⟩:=I.tuple hq
   have hl:a < s.heap.objs.size:=by obtain ⟨o,e,_⟩:=p; exact Heap.lt_size e
   refine ⟨_,_,[a],fun i k h=>h.IsTupleIter i a k,iterOf_tuple a its.toArray,p,fun h o q=>(let ⟨o',e,r⟩:=q; ⟨o',Heap.get?_push_of_some _ e,r⟩),rfl,fun b hb=>by rw [List.mem_singleton.mp hb]; exact hl,fun i hi=>⟨src_tuple i a (Nat.ne_of_lt (Nat.lt_of_lt_of_le hl hi)),fun h e=>⟨_,e,rfl,rfl⟩⟩⟩
 | str z =>
   obtain ⟨t,rfl⟩:=r
   refine ⟨_,_,[],fun i k h=>h.IsStrIter i (strIterType z) z t k,iterOf_str z t,trivial,fun _ _ _=>trivial,rfl,fun b hb=>?_,fun i hi=>⟨src_str i z t,fun h e=>⟨_,e,rfl,rfl⟩⟩⟩
   cases hb
theorem nn {a b:Nat} (h:a < b):a≠b:=Nat.ne_of_lt h
theorem apart_mk {n:Nat} {fp1 fp2:List Addr} (h1:∀ b∈fp1,b < n) (h2:∀ b∈fp2,b < n):Apart (n+4) (n+2) (n+3) n (n+1) (n :: fp1) ((n+1) :: fp2):=by
 have k1:∀ b:Nat,n < b→b∉(n :: fp1):=fun b hb m=>by
  rcases List.mem_cons.mp m with q | q
  · exact Nat.ne_of_gt hb q
  · exact Nat.lt_irrefl _ (Nat.lt_trans hb (h1 b q))
 have k2:∀ b:Nat,n+1 < b→b∉((n+1) :: fp2):=fun b hb m=>by
  rcases List.mem_cons.mp m with q | q
  · exact Nat.ne_of_gt hb q
  · exact Nat.lt_irrefl _ (Nat.lt_trans (Nat.lt_trans (Nat.lt_succ_self n) hb) (h2 b q))
 have k3:n∉((n+1) :: fp2):=fun m=>by
  rcases List.mem_cons.mp m with q | q
  · exact Nat.ne_of_lt (Nat.lt_succ_self n) q
  · exact Nat.lt_irrefl _ (h2 n q)
 exact ⟨nn (by lia),nn (by lia),nn (by lia),nn (by lia),nn (by lia),(nn (by lia)).symm,(nn (by lia)).symm,(nn (by lia)).symm,(nn (by lia)).symm,nn (by lia),k1 _ (by lia),k2 _ (by lia),k1 _ (by lia),k2 _ (by lia),k1 _ (by lia),k3⟩
theorem five_ge {n c:Nat} (h:c∈[n+4,n+2,n+3,n,n+1]):n≤c:=by
 simp only [List.mem_cons,List.not_mem_nil,or_false] at h
 lia
def iZip (K:PySem.W.Frag) (ta:TA):TI:=fun σ H R=>ta σ H fun vs H1=>∃ x y sq1 sq2,vs=[x,y]∧ZK K H1 x sq1∧ZK K H1 y sq2∧R (Itz sq1 sq2) H1
section
variable {X:Cx} {Z:Zc}
theorem boot_zip:bootBuiltins "zip" = some (.type "zip"):=by decide +kernel
theorem pi_zip {elts:List Expr} {x1} {tp:Pos} {a b:Expr} {ta:TA} {p pos:Pos} (hg:Gl X "zip") (hm:X.mg "zip" = none) (ha:PA X [a,b] ta) (hs:starEach [a,b] X.env=[(false,eval a X.env),(false,eval b X.env)]) (hs2:starEach [b] X.env=[(false,eval b X.env)]) :
  PI X (.Tuple elts x1 tp) (.Call (.Name "zip" p) [a,b] [] pos) (iZip X.K ta):=by
 intro pins s σ H R I h
 refine Call_ (ld_blt I hg hm boot_zip (PyProof.Rows.callWith_type1 (thn (ha pos pins s σ H _ I h) fun us s1 ⟨vs,H1,I1,r1,q1⟩=>?_) (by rw [hs,hs2]) (by rw [hs2]; rfl)))
 obtain ⟨x,y,sq1,sq2,e,k1,k2,q⟩:=q1
 subst e
 obtain ⟨u,w',rfl,ru,rw'⟩:=vals2 r1
 obtain ⟨o1,c1,fp1,t1,i1,hc1,hp1,hf1,hb1,z1⟩:=zk_at I1 k1 ru
 obtain ⟨o2,c2,fp2,t2,i2,hc2,hp2,hf2,hb2,z2⟩:=zk_at I1 k2 rw'
 refine call_zipG i1 i2 hp2 hc1 hc2 hf1 hf2 fun h' hz hTI hTO g1 g2 hsz hk=>?_
 have I2:=I1.kept (t':=s1.toks) hk
 refine wpAny_pyIter_zip hz ?_
 obtain ⟨S1,a1⟩:=z1 s1.heap.objs.size (Nat.le_refl _)
 obtain ⟨S2,a2⟩:=z2 (s1.heap.objs.size+1) (Nat.le_succ _)
 have D:=apart_mk hb1 hb2
 refine ⟨s1.heap.objs.size+4,_,_,_,H1,rfl,I2,turn_zip D S1 S2,⟨hz,hTI,⟨_,_,hTO⟩,a1 _ g1,a2 _ g2⟩,fun c hc=>?_,q⟩
 have hge:=five_ge hc
 exact I1.fpOk hge (I1.hok.fresh hge)
def seqT:T→Option (List T)
 | .lst ts=>some ts
 | .tup ts=>some ts
 | .str z=>some (z.cps.toList.map fun c=>.str ⟨#[c]⟩)
 | _=>none
def zipT (xs ys:List T):List T:=List.zipWith (fun a b=>.tup [a,b]) xs ys
def fZip (fa fb:FE):FI:=fun ρ Q=>fa ρ fun x=>fb ρ fun y=>match seqT x,seqT y with
 | some xs,some ys=>Q (zipT xs ys)
 | _,_=>False
theorem zk_of {K:PySem.W.Frag} {H:Hp} {A:List Addr} {x:T} {v:V} {xs:List T} (h:At K H A x v) (e:seqT x=some xs):∃ sq,ZK K H v sq∧∀ H A,At K H A x v→∃ vs,sq H vs∧AtL K H A xs vs:=by
 cases x with
 | lst ts =>
   cases e
   obtain ⟨a,vs,rfl,l,q⟩:=h
   refine ⟨_,.lst l.sq,fun H A h=>?_⟩
   obtain ⟨a',vs',e,l',q'⟩:=h
   cases e
   exact ⟨vs',l'.sq,q'⟩
 | tup ts =>
   cases e
   obtain ⟨a,vs,rfl,l,q⟩:=h
   refine ⟨_,.tup l,fun H A h=>?_⟩
   obtain ⟨a',vs',e,l',q'⟩:=h
   cases e
   exact ⟨vs',l',q'⟩
 | str z =>
   cases e
   subst h
   refine ⟨_,.str z,fun H A h=>⟨chrs z,rfl,?_⟩⟩
   unfold chrs
   generalize z.cps.toList=l
   induction l with
   | nil=>exact AtL.nil
   | cons c l ih=>exact AtL.cons at_str ih
 | _=>cases e
theorem wk_zip {K:PySem.W.Frag} {x y:T} {v w:V} {xs ys:List T} {sq1 sq2:Hp→List V→Prop} (h1:∀ H A,At K H A x v→∃ vs,sq1 H vs∧AtL K H A xs vs) (h2:∀ H A,At K H A y w→∃ vs,sq2 H vs∧AtL K H A ys vs) :
  Wk K (Itz sq1 sq2) [(x,v),(y,w)] (zipT xs ys):=fun H A hA h i=>by
 obtain ⟨vs,q1,l1⟩:=h1 H A (h _ List.mem_cons_self)
 obtain ⟨ws,q2,l2⟩:=h2 H A (h _ (List.mem_cons_of_mem _ List.mem_cons_self))
 have e1:=l1.length
 have e2:=l2.length
 have el:(zipT xs ys).length=min xs.length ys.length:=by unfold zipT; rw [List.length_zipWith]
 refine ⟨fun hi=>⟨vs,ws,q1,q2,by lia,by lia⟩,fun hi=>⟨vs,ws,q1,q2,by lia⟩,fun t ht x H' y=>?_⟩
 obtain ⟨p,a,b,hp,rfl,ha,hb,rfl⟩:=y
 unfold zipT at ht
 rw [List.getElem?_zipWith] at ht
 cases ex:xs[i]? with
 | none=>rw [ex] at ht; cases ht
 | some tx =>
   cases ey:ys[i]? with
   | none=>rw [ex,ey] at ht; cases ht
   | some ty =>
     rw [ex,ey] at ht
     cases ht
     obtain ⟨v1,g1,g2⟩:=l1.get ex
     obtain ⟨v2,g3,g4⟩:=l2.get ey
     have z1:=ha vs q1
     have z2:=hb ws q2
     rw [g1] at z1
     rw [g3] at z2
     cases z1
     cases z2
     exact ⟨same_upd hp,at_tup (SqT.of upd_same) (AtL.cons (g2.same (same_upd hp)) (AtL.cons (g4.same (same_upd hp)) AtL.nil))⟩
theorem vi_zip {elts:List Expr} {x1} {tp p pos:Pos} {a b:Expr} {fa fb:FE} (hg:Gl X "zip") (hm:X.mg "zip" = none) (ha:VE X Z a fa) (hb:VE X Z b fb)
  (hs:starEach [a,b] X.env=[(false,eval a X.env),(false,eval b X.env)]:=by rfl) (hs2:starEach [b] X.env=[(false,eval b X.env)]:=by rfl) :
  VI X Z (.Tuple elts x1 tp) (.Call (.Name "zip" p) [a,b] [] pos) (fZip fa fb):=.mk fun tm =>
 PI.weak (pi_zip hg hm (pa_cons (ha tm) (pa_cons (hb tm) pa_nil hs2) (by rw [hs,hs2])) hs hs2) fun σ H R ⟨ρ,O,q,I,hf,k⟩=>⟨ρ,O,_,I,hf,fun x hx v H1 s1 a1=>⟨ρ,O,_,I.same s1,hx,fun y hy w H2 s2 a2=>by
  split at hy
  · rename_i xs ys e1 e2
    obtain ⟨sq1,k1,w1⟩:=zk_of (a1.same s2) e1
    obtain ⟨sq2,k2,w2⟩:=zk_of a2 e2
    exact ⟨v,w,sq1,sq2,rfl,k1,k2,k _ hy _ H2 _ (s1.trans s2) (fun p hp=>by
     rcases List.mem_cons.mp hp with e | hp
     · rw [e]; exact a1.same s2
     · rw [List.mem_singleton.mp hp]; exact a2) (wk_zip w1 w2)⟩
  · exact hy.elim⟩⟩
end
end VT
namespace VT
open PySem PySem.Spec PyProof.Rows L2
section
variable {X:Cx} {Z:Zc} {k k' n:Nat} {x:Str} {ps:List Str} {e:Expr} {es:List Expr} {g:FA} {p pos:Pos} {G:List T→(Rt→Prop)→Prop}
theorem vp_callC (C:Cal X.prog X.w X.K X.mg X.base x ps k (spP X.K n G)) (hr:Room k' X.A) (ha:VA X Z (e :: es) g) (hg:Gl X x:=by rfl) (hk:k≤k':=by decide)
  (hdb:(x == ("__debug__" : Str))=false:=by decide) (he:starEach (e :: es) X.env=(false,eval e X.env) :: starEach es X.env:=by rfl) (hpl:(backTo pos (starEach es X.env)).any (·.1)=false:=by rfl) :
  VP X Z (.Call (.Name x p) (e :: es) [] pos) (fCallV n g G):=by
 obtain ⟨f,fd,h1,h2,h3,F⟩:=C
 exact vp_call F (hr.mono hk) hg h1 h2 h3 ha hdb he hpl
end
end VT
namespace VT
open PySem PySem.Spec PyProof.Rows L2
section
variable {X:Cx} {Z:Zc} {k n:Nat} {x:Str} {p pos:Pos} {e:Expr} {es:List Expr} {g:FA}
end
end VT
namespace L2
open PySem PySem.Spec PyProof.Rows
end L2
namespace L2
open PySem PySem.Spec PyProof.Rows
section
variable (P:Program) (w:World)
end
section
variable {P:Program} {w:World} {H H':Hp} {h h':Heap} {a:Addr} {o:HO}
end
section
variable {P:Program} {w:World} {H:Hp} {h h':Heap} {x e:Addr} {o':HO}
end
section
variable {fs fs' ex ex':List Addr} {H H1 H2:Hp} {h h1 h2 h':Heap} {a x e:Addr} {o:HO}
end
end L2
namespace L2
open PySem PySem.Spec PyProof.Rows
section
variable {X:Cx} {pins:List (Addr×Obj)} {σ:List (Option V)} {H H':Hp} {s:Shared} {h':Heap}
end
end L2
namespace L2
open PySem PySem.Spec PyProof.Rows
section
variable {X:Cx}
variable {a b:Expr} {ta tb:TE} {pos:Pos}
variable {tA tB':TT} {rest:List Expr}
end
end L2
namespace L2
open PySem PySem.Spec PyProof.Rows
section
variable {X:Cx} {pins:List (Addr×Obj)} {σ:St} {H:Hp} {s:Shared} {a:Addr} {xs ys:List V}
end
section
variable {X:Cx} {pins:List (Addr×Obj)} {σ:St} {H:Hp} {s:Shared} {E:Value→Shared→Prop}
end
section
variable {X:Cx} {st:Stmt} {rest:List Stmt} {t u:TS} {e:Expr} {te:TE} {pos:Pos}
end
section
variable {X:Cx} {pos:Pos}
end
section
variable {X:Cx} {pos:Pos}
end
end L2
namespace L2
open PySem PySem.Spec PyProof.Rows
section
variable {X:Cx} {tg:Expr}
end
end L2
namespace L2
open PySem PySem.Spec PyProof.Rows
section
variable {X:Cx} {a b c:Expr} {ta tb tc:TE} {pos:Pos}
end
section
variable {X:Cx} {a b c:Expr} {ta tb tc:TE} {pos:Pos}
end
end L2
namespace L2
open PySem PySem.Spec PyProof.Rows
section
variable {prog:Program} {w:World} {A:Around} {E:Value→Shared→Prop} {s:Shared} {K:PySem.W.Frag} {x dx C f:Addr} {mA:Str→Option Value} {name:Str} {v:Value}
end
section
variable {P:Program} {w:World} {H H':Hp} {h h':Heap} {a C dx:Addr} {fs fs':List (Str×V)}
end
section
variable {X:Cx} {pins:List (Addr×Obj)} {σ:St} {H:Hp} {s:Shared} {a C dx:Addr} {fs:List (Str×V)} {f:Str} {v:V} {A:Around} {E:Value→Shared→Prop}
end
section
variable {X:Cx} {o e value:Expr} {f:Str} {pos pos' tpos:Pos} {ta tv:TE}
end
section
variable {X:Cx} {pins:List (Addr×Obj)} {σ:St} {H:Hp} {s:Shared} {A:Around} {E:Value→Shared→Prop} {Q:Value→Shared→Prop} {c:Value} {b:Bool}
end
end L2
namespace L2
open PySem PySem.Spec PyProof.Rows
section
variable {X:Cx} {e:Expr} {es:List Expr} {te:TE} {t:TA} {pos:Pos}
end
section
variable {X:Cx} {pins:List (Addr×Obj)} {σ:St} {H:Hp} {s s':Shared}
end
section
variable {X:Cx} {CX:CXT} {k:Nat} {f C:Addr} {fd:FuncData} {ps:List Str} {sp:Sp} {dvs:List V} {ds:List Value} {E:XK} {x m:Str} {p pos apos:Pos} {e o:Expr} {es:List Expr} {ta:TE} {t:TA}
end
section
variable {X:Cx} {CX:CXT} {k:Nat} {f C:Addr} {fd:FuncData} {ps ks:List Str} {sp:Sp} {E:XK} {x m:Str} {p pos apos kpos:Pos} {e o:Expr} {es:List Expr} {kws:List Keyword} {te ta:TE} {t tk:TA} {nm:Option Str}
variable {g:List Value→List Value→List Value} {gV:List V→List V→List V}
end
end L2
namespace L2
open PySem PySem.Spec PyProof.Rows
section
variable {X:Cx} {x:Str} {p pos:Pos} {e:Expr} {es:List Expr} {t:TA} {id T:String} {r:List V→Hp→VK→Prop}
end
end L2
namespace L2
open PySem PySem.Spec PyProof.Rows
section
variable {κ:Type} [DecidableEq κ]
end
section
variable {P:Program} {w:World} {H:Hp} {h:Heap} {a:Addr}
end
section
variable {X:Cx} {pins:List (Addr×Obj)} {σ:St} {H:Hp} {s:Shared} {a:Addr} {y v:V} {u r:Value} {o:Option V} {A:Around} {E:Value→Shared→Prop}
end
section
variable {X:Cx} {pins:List (Addr×Obj)} {σ:St} {H:Hp} {s:Shared} {a:Addr} {kvs:List (Key×V)} {k:Key} {u:Value} {A:Around} {E:Value→Shared→Prop}
end
section
variable {X:Cx} {o i e value:Expr} {pos pos' tpos:Pos} {td ty tv:TE}
end
section
variable {X:Cx} {pos:Pos}
end
section
variable {X:Cx} {pins:List (Addr×Obj)} {σ:St} {H:Hp} {s:Shared} {a:Addr} {y d:V} {u r:Value} {o:Option V} {A:Around} {E:Value→Shared→Prop}
end
section
variable {X:Cx} {o e f:Expr} {apos cpos:Pos} {td ty tx:TE}
end
section
variable {X:Cx} {pins:List (Addr×Obj)} {σ:St} {H:Hp} {s:Shared} {a:Addr} {kvs:List (Key×V)} {A:Around} {E:Value→Shared→Prop}
end
section
variable {X:Cx} {pins:List (Addr×Obj)} {σ:St} {H:Hp} {s:Shared} {a:Addr} {y:V} {u:Value} {A:Around} {E:Value→Shared→Prop}
end
end L2
namespace Att
open PySem PySem.W PySem.Calls PyProof.Rows
section
variable {prog:Program} {w:World} {A:Around} {E:Value→Shared→Prop} {s:Shared} {K:Frag}
end
end Att
namespace L2
open PySem PySem.Spec PyProof.Rows
end L2
namespace L2
open PySem PySem.Spec PyProof.Rows
end L2
namespace L2
open PySem PySem.Spec PyProof.Rows
section
variable {P:Program} {w:World} {K:PySem.W.Frag} {mg:Str→Option Value} {base:Heap}
end
section
variable {X:Cx}
end
section
variable {κ:Type} [DecidableEq κ]
end
end L2
namespace VT
open PySem PySem.Spec PyProof.Rows L2
section
variable {X:Cx} {Z:Zc} {e a b:Expr} {fa fb fc:FE} {pos:Pos}
end
end VT
namespace VT
open PySem PySem.Spec PyProof.Rows L2
section
variable {X:Cx} {Z:Zc} {a b:Expr} {fa fb:FE} {pos:Pos}
end
end VT
namespace RV
open PySem PySem.Spec PyProof.Rows
section
variable {prog:Program} {w:World} {A:Around} {E:Value→Shared→Prop} {s:Shared}
end
section
variable {prog:Program} {w:World} {A:Around} {s:Shared} {R:Result→Shared→Prop}
variable {I:Addr} {fp wr:List Addr} {G:Array GenState→Array GenState→Prop} {n:Nat} {P:Nat→Value→Prop} {St:Nat→Shared→Prop}
end
section
variable {prog:Program} {w:World} {A:Around} {E:Value→Shared→Prop} {s:Shared}
variable {I:Addr} {fp wr:List Addr} {G:Array GenState→Array GenState→Prop} {n:Nat} {P:Nat→Value→Prop} {St:Nat→Shared→Prop}
end
end RV
namespace RV
open PySem PySem.Spec PyProof.Rows
section
variable {prog:Program} {w:World} {A:Around} {E:Value→Shared→Prop} {s:Shared}
end
end RV
namespace VT
open PySem PySem.Spec PyProof.Rows L2
section
variable {X:Cx}
end
section
variable {X:Cx} {Z:Zc} {a:Expr} {fa:FE} {p1 p2 pos1 pos2:Pos}
end
end VT
namespace VT
open PySem PySem.Spec PyProof.Rows L2
section
variable {X:Cx} {Z:Zc} {ek ev:Expr} {fk fv:FE} {pos:Pos}
end
end VT
namespace VT
open PySem PySem.Spec PyProof.Rows L2
section
variable {X:Cx} {Z:Zc} {e c:Expr} {fe fc:FE} {x:Str} {p apos cpos:Pos} {a:Addr} {l:List (Str×T)}
end
end VT
namespace VT
open PySem PySem.Spec PyProof.Rows L2
section
variable {X:Cx}
end
section
variable {K:PySem.W.Frag} {H:Hp} {A:List Addr}
end
end VT
namespace VT
open PySem PySem.Spec PyProof.Rows L2
section
variable {X:Cx}
end
section
variable {X:Cx} {Z:Zc} {a b e:Expr} {fa fb:FE} {pos:Pos}
end
abbrev FPs:=En→(List (Key×T)→Prop)→Prop
section
variable {X:Cx} {Z:Zc} {ek ev:Expr} {fk fv:FE} {pos:Pos} {keys:List (Option Expr)} {values:List Expr} {f:FPs}
variable {e:Expr} {apos cpos:Pos}
end
end VT
namespace VT
open PySem PySem.Spec PyProof.Rows L2
section
variable {X:Cx}
end
section
variable {X:Cx} {Z:Zc} {a b:Expr} {fa fb:FE} {pos:Pos}
end
end VT
namespace VT
open PySem PySem.Spec PyProof.Rows L2
section
variable {X:Cx} {Z:Zc}
def gNot:FS:=fun _ _=>False
theorem vs_not {st:Stmt}:VS X Z st gNot:=.mk fun tm pins s σ H D I ⟨_,_,_,_,h,_⟩=>h.elim
end
section
variable {X:Cx} {Z:Zc} {e1 e2:Expr} {f1 f2:FE} {apos cpos:Pos}
end
end VT
namespace VT
open PySem PySem.Spec PyProof.Rows L2
section
variable {K:PySem.W.Frag} {H:Hp} {A:List Addr} {f:Str}
end
section
variable {X:Cx} {Z:Zc} {e:Expr} {es:List Expr} {C:Addr} {f:Str} {pos:Pos}
def spI (K:PySem.W.Frag) (C:Addr) (n:Nat) (G:List T→(T→Prop)→Prop):Sp:=spOf K (true :: List.replicate n false) fun ts q=>match ts with
 | .ins C' [] [] :: us=>C'=C∧G us fun u=>q [u] (.vw .non)
 | _=>False
end
section
variable {P:Program} {w:World} {K:PySem.W.Frag} {mg:Str→Option Value} {base:Heap}
end
end VT
namespace VT
open PySem PySem.Spec PyProof.Rows L2
section
variable {X:Cx}
end
section
variable {X:Cx} {Z:Zc} {a:Expr} {fa:FE} {p1 apos pos1 pos2:Pos}
end
end VT
namespace VT
open PySem PySem.Spec PyProof.Rows L2
structure Deep (K:PySem.W.Frag) (H H':Hp) (Ox:List Addr) (us:List T) (p:Addr) (ls:List Addr):Prop where
 same:Same H H'
 tup:H' p=some (.tup (ls.map V.ref))
 nd:ls.Nodup
 new:∀ a∈ls,H a=none
 rts:Paired (fun a t=>Root K H' (ls ++ Ox) a t) ls us
def spD (K:PySem.W.Frag) (n:Nat) (G:List T→(List T→Prop)→Prop):Sp:=fun vs H Q _=>∃ ts Ox q,(∀ a∈Ox,H a≠none)∧AtL K H Ox ts vs∧ts.length=n∧G ts q ∧
 ∀ us,q us→∀ p ls H',Deep K H H' Ox us p ls→Q (.ref p) H'
structure FinD (K:PySem.W.Frag) (Z:Zc) (tm:List (T×V)) (d:VEn) (dp:List T→Prop) (D:Ends):Prop where
 fin:Fin K Z tm d D
 dp:∀ us,dp us→∀ p ls H',Deep K Z.H0 H' Z.Ox us p ls→D.rt (.ref p) H'
abbrev FSD:=VEn→(List T→Prop)→En→Prop
def lSD (X:Cx) (Z:Zc) (tm:List (T×V)) (g:FSD):TS:=fun D σ H=>∃ ρ O d dp,EnvAt X.K Z tm O ρ σ H∧g d dp ρ∧FinD X.K Z tm d dp D
def VSsD (X:Cx) (Z:Zc) (st:List Stmt) (g:FSD):Prop:=Bx fun tm=>PSs X st (lSD X Z tm g)
instance {X:Cx} {Z:Zc} {st:List Stmt} {g:FSD}:CoeFun (VSsD X Z st g) fun _=>∀ tm,PSs X st (lSD X Z tm g):=⟨fun h=>Bx.h h⟩
section
variable {X:Cx} {Z:Zc} {st:Stmt} {rest:List Stmt} {g:FS} {u:FSD} {pos:Pos}
def gSeqD (g:FS) (u:FSD):FSD:=fun d dp ρ=>g { d with nx:=u d dp } ρ
theorem vsd_cons (h1:VS X Z st g) (h2:VSsD X Z rest u):VSsD X Z (st :: rest) (gSeqD g u):=.mk fun tm=>PSs.weak' (pss_cons (h1 tm) (h2 tm)) fun D σ H ⟨ρ,O,d,dp,I,h,F⟩ =>
 ⟨ρ,O,{ d with nx:=u d dp },I,h,⟨fun O' ρ' σ' H' I' h'=>⟨ρ',O',d,dp,I',h',F⟩,F.fin.rt,F.fin.bk,F.fin.ct⟩⟩
theorem VSsD.weak {u':FSD} (h:VSsD X Z rest u) (hw:∀ d dp ρ,u' d dp ρ→u d dp ρ):VSsD X Z rest u':=.mk fun tm=>PSs.weak' (h tm) fun D σ H ⟨ρ,O,d,dp,I,q,F⟩=>⟨ρ,O,d,dp,I,hw d dp ρ q,F⟩
end
section
variable {P:Program} {w:World} {K:PySem.W.Frag} {mg:Str→Option Value} {base:Heap}
theorem roots_none (n:Nat):roots (List.replicate n none)=[]:=by
 unfold roots
 induction n with
 | zero=>rfl
 | succ n ih=>rw [List.replicate_succ,List.filterMap_cons]; exact ih
theorem env_views {N:List Str} {H:Hp} {Ox:List Addr} {ts:List T} {vs:List V} (hN:ts.length≤N.length) (ox:∀ a∈Ox,H a≠none) (h:AtL K H Ox ts vs) :
  EnvAt K ⟨H,[],Ox⟩ [] (List.replicate N.length none) (ts.map (fun t=>some (t,false)) ++ List.replicate (N.length - ts.length) none) (start N vs) H:=by
 have hl:=h.length
 have ea:av ⟨H,[],Ox⟩ (List.replicate N.length none)=Ox:=by unfold av; rw [roots_none]; rfl
 refine ⟨?_,by simp; lia,fun i e he=>?_,by rw [roots_none]; exact List.nodup_nil,fun a ha=>?_,fun p hp=>(nomatch hp),ox,fun b o e _=>e,fun p hp=>(nomatch hp)⟩
 · unfold L2.start; simp [hl]
 · rw [ea]
   by_cases hi:i < ts.length
   · rw [List.getElem?_append_left (by simpa using hi),List.getElem?_map] at he
     have e1:ts[i]?=some ts[i]:=by simp
     rw [e1] at he
     cases he
     obtain ⟨v,h1,h2⟩:=h.get e1
     refine ⟨none,some v,by rw [List.getElem?_replicate,if_pos (by lia)],?_,rfl,v,rfl,h2⟩
     unfold L2.start
     rw [List.getElem?_append_left (by rw [List.length_map]; lia),List.getElem?_map,h1]
     rfl
   · rw [List.getElem?_append_right (by simpa using hi),List.getElem?_replicate] at he
     split at he
     · rename_i hlt
       cases he
       rw [List.length_map] at hlt
       refine ⟨none,none,by rw [List.getElem?_replicate,if_pos (by lia)],?_,rfl⟩
       unfold L2.start
       rw [List.getElem?_append_right (by rw [List.length_map]; lia),List.getElem?_replicate,List.length_map,if_pos (by lia)]
     · cases he
 · rw [roots_none] at ha; exact nomatch ha
theorem fnD {x qual:Str} {st:Stmt} {f:Addr} {fd:FuncData} {N ps:List Str} {k n:Nat} {G:List T→(List T→Prop)→Prop} (F:Fun K x qual st f fd) (S:FnScope N ps (defScope st)) (hn:n=ps.length) (hN:n≤N.length)
  (hbody:∀ (cdv:Value) (A:Around) (outer:List Env) (s:Shared) (H:Hp) (E:XK) (Ox:List Addr),Room k (A.deeper (envOfC qual (defScope st) s.heap.objs.size f cdv))→∀ ts q,G ts q →
    ∃ g,VSsD (cxOf CX0 P w K mg base N qual (defScope st) f cdv A outer s H E).nox ⟨H,[],Ox⟩ (defBody st) g∧(ts.length=n→g { nx:=fun _=>False,rt:=fun _ _=>False } q (ts.map (fun t=>some (t,false)) ++ List.replicate (N.length - ts.length) none))) :
  FnOk P w K mg base CX0 (k+1) f fd ps (spD K n G):=by
 refine F.ok S (fun vs H Q E h=>?_) (fun cdv A outer s H vs Q E hr h=>?_)
 · obtain ⟨ts,Ox,q,_,ha,hl,_⟩:=h
   rw [ha.length,hl,hn]
 · obtain ⟨ts,Ox,q,ox,ha,hl,hG,kk⟩:=h
   obtain ⟨g,hg,hq⟩:=hbody cdv A outer s H E Ox hr ts q hG
   exact ⟨_,hg [],_,_,_,q,env_views (by lia) ox ha,hq hl,⟨⟨fun _ _ _ _ _ h=>h.elim,fun _ _ _ _ _ _ _ h=>h.elim,fun _ _ _ _ _ h=>h.elim,fun _ _ _ _ _ h=>h.elim⟩,fun us hu p ls H' D=>kk us hu p ls H' D⟩⟩
end
end VT
namespace VT
open PySem PySem.Spec PyProof.Rows L2
section
variable {X:Cx} {Z:Zc} {k n:Nat} {f:Addr} {fd:FuncData} {ps:List Str} {G:List T→(List T→Prop)→Prop} {x:Str} {p pos:Pos} {e:Expr} {es:List Expr} {g:FA}
def lD (X:Cx) (Z:Zc) (tm:List (T×V)) (f:En→(List T→Prop)→Prop):TE:=fun σ H Q=>∃ ρ O q,EnvAt X.K Z tm O ρ σ H∧f ρ q∧∀ us,q us→∀ p ls H',Deep X.K H H' (av Z O) us p ls→Q (.ref p) H'
def VD (X:Cx) (Z:Zc) (e:Expr) (f:En→(List T→Prop)→Prop):Prop:=Bx fun tm=>PE X e (lD X Z tm f)
instance {X:Cx} {Z:Zc} {e:Expr} {f:En→(List T→Prop)→Prop}:CoeFun (VD X Z e f) fun _=>∀ tm,PE X e (lD X Z tm f):=⟨fun h=>Bx.h h⟩
def fCallD (n:Nat) (g:FA) (G:List T→(List T→Prop)→Prop):En→(List T→Prop)→Prop:=fun ρ Q=>g ρ fun ts=>ts.length=n∧G ts Q
theorem vd_call (F:FnOk X.prog X.w X.K X.mg X.base CX0 k f fd ps (spD X.K n G)) (hr:Room k X.A) (hg:Gl X x) (hm:X.mg x=some (.ref f)) (hk:PySem.W.keepIn X.K (.ref f)=true) (hb:Binds X.K fd ps []) (ha:VA X Z (e :: es) g)
  (hdb:(x == ("__debug__" : Str))=false:=by decide) (he:starEach (e :: es) X.env=(false,eval e X.env) :: starEach es X.env:=by rfl) (hpl:(backTo pos (starEach es X.env)).any (·.1)=false:=by rfl) :
  VD X Z (.Call (.Name x p) (e :: es) [] pos) (fCallD n g G):=.mk fun tm=>PE.weak (pe_call F hr hg hm hk hb .nil pass0 (ha tm) hdb he hpl) fun σ H Q ⟨ρ,O,q,I,hf,k⟩ =>
 ⟨ρ,O,_,I,hf,fun ts hts vs H1 s1 a1=>by
   show spD X.K n G (vs ++ []) H1 Q E0
   rw [List.append_nil]
   refine ⟨ts,av Z O,q,(I.same s1).avH,a1,hts.1,hts.2,fun us hu p ls H' D=>k us hu p ls H' ⟨s1.trans D.same,D.tup,D.nd,fun a ha=>?_,D.rts⟩⟩
   cases z:H a with
   | none=>rfl
   | some o=>have:=D.new a ha; rw [s1 _ _ z] at this; cases this⟩
theorem Deep.at {K:PySem.W.Frag} {tm:List (T×V)} {O:List (Option Addr)} {ρ:En} {σ:St} {H H':Hp} {us:List T} {p:Addr} {ls:List Addr} (I:EnvAt K Z tm O ρ σ H) (D:Deep K H H' (av Z O) us p ls):At K H' (av Z O) (.tup us) (.ref p):=by
 refine at_tup (SqT.of D.tup) (AtL.iff.mpr ?_)
 have key:∀ {ls':List Addr} {us':List T},(∀ a∈ls',a∈ls)→Paired (fun a t=>Root K H' (ls ++ av Z O) a t) ls' us'→Paired (fun v t=>At K H' (av Z O) t v) (ls'.map V.ref) us':=by
  intro ls' us' sub h
  induction h with
  | nil=>exact .nil
  | cons r t ih =>
    exact .cons ((r.fewer fun b hb=>List.mem_append_right _ hb).at fun z=>I.avH _ z (D.new _ (sub _ List.mem_cons_self))) (ih fun a ha=>sub a (List.mem_cons_of_mem _ ha))
 exact key (fun _ h=>h) D.rts
def fTupD (f:En→(List T→Prop)→Prop):FP:=fun ρ Q=>f ρ fun us=>Q (.vw (.tup us))
theorem VD.vp {f:En→(List T→Prop)→Prop} (h:VD X Z e f):VP X Z e (fTupD f):=.mk fun tm=>PE.weak (h tm) fun σ H Q ⟨ρ,O,q,I,hf,k⟩ =>
 ⟨ρ,O,_,I,hf,fun us hu p ls H' D=>k _ hu _ H' D.same ⟨I.same D.same,D.at I⟩⟩
end
theorem EnvAt.scrap {K:PySem.W.Frag} {Z:Zc} {tm:List (T×V)} {O:List (Option Addr)} {ρ:En} {σ:St} {H:Hp} (I:EnvAt K Z tm O ρ σ H) {i:Nat} (s:Option V) (hp:NotPar Z i):EnvAt K Z tm (O.set i none) (ρ.set i none) (σ.set i s) H:=by
 have J:=I.forget hp
 refine ⟨by simp [I.lσ],J.lO,fun j e h=>?_,J.nd,J.own,J.par,J.ox,J.keep,J.tmp⟩
 obtain ⟨o,w,h1,h2,h3⟩:=J.sl j e h
 rcases get_set h with ⟨rfl,rfl,hl⟩ | ⟨ne,h'⟩
 · exact ⟨o,s,h1,by rw [List.getElem?_set_self (by rw [I.lσ]; exact hl)],h3⟩
 · exact ⟨o,w,h1,by rw [List.getElem?_set_ne (Ne.symm ne)]; exact h2,h3⟩
section
variable {X:Cx} {Z:Zc}
end
end VT
namespace VT
open PySem PySem.Spec PyProof.Rows L2
section
variable {X:Cx} {Z:Zc}
end
end VT
namespace VT
open PySem PySem.Spec PyProof.Rows L2
section
variable {X:Cx} {Z:Zc} {st:Stmt} {sts:List Stmt} {g:FS}
end
end VT
namespace VT
open PySem PySem.Spec PyProof.Rows L2
section
variable {X:Cx} {Z:Zc} {o e:Expr} {fo fe:FE} {apos cpos:Pos}
end
end VT
namespace VT
open PySem PySem.Spec PyProof.Rows L2
section
variable {X:Cx} {Z:Zc} {o e:Expr} {fo fe:FE} {apos cpos:Pos}
end
end VT
namespace VT
open PySem PySem.Spec PyProof.Rows L2
inductive S where
 | lf (t:T)
 | lst (xs:List S)
 | dk (ks:List Key) (ts:List T)
 | dc (nh:List Key×Key→Int) (ks:List (List Key×Key)) (ts:List T)
 | ins (C:Addr) (ns:List Str) (xs:List S)
section
variable {K:PySem.W.Frag} {H H':Hp} {A A':List Addr}
end
inductive Stp where
 | fld (C:Addr) (f:Str)
 | last
section
variable {K:PySem.W.Frag} {H:Hp} {A:List Addr}
end
end VT
namespace VT
open PySem PySem.Spec PyProof.Rows L2
structure Mz where
 H0:Hp
 fp0:List Addr
 Ox:List Addr
 a:Addr
 k:Nat
def hid (H:Hp) (L:List Addr):Hp:=fun b=>if b∈L then none else H b
section
variable {K:PySem.W.Frag} {M:Mz} {O Of:List (Option Addr)} {fp:List Addr} {s:S} {ρ:En} {σ:St} {H Hf:Hp} {tm:List (T×V)}
end
end VT
namespace VT
open PySem PySem.Spec PyProof.Rows L2
structure MEn where
 nx:En→S→Prop
 rt:En→S→Rt→Prop
 bk:En→S→Prop:=fun _ _=>False
 ct:En→S→Prop:=fun _ _=>False
abbrev FM:=MEn→En→S→Prop
section
variable {X:Cx} {M:Mz} {st:Stmt} {rest:List Stmt} {g u:FM} {pos:Pos}
end
section
variable {X:Cx} {e i:Expr} {k:Nat} {ps:List Stp} {C:Addr} {f:Str} {pos:Pos}
end
end VT
namespace VT
open PySem PySem.Spec PyProof.Rows L2
end VT
namespace VT
open PySem PySem.Spec PyProof.Rows L2
section
variable {K:PySem.W.Frag} {M:Mz} {O:List (Option Addr)} {fp:List Addr} {s:S} {ρ:En} {σ:St} {H:Hp} {A:List Addr}
end
section
variable {X:Cx} {M:Mz} {e:Expr} {C:Addr} {f:Str} {pos:Pos}
end
end VT
namespace VT
open PySem PySem.Spec PyProof.Rows L2
section
variable {X:Cx} {M:Mz} {e o i:Expr} {ps:List Stp} {pos tpos:Pos}
end
end VT
namespace VT
open PySem PySem.Spec PyProof.Rows L2
section
variable {X:Cx} {M:Mz} {e o:Expr} {ps:List Stp} {pos apos cpos:Pos}
end
end VT
namespace VT
open PySem PySem.Spec PyProof.Rows L2
section
variable {K:PySem.W.Frag} {M:Mz} {O:List (Option Addr)} {fp:List Addr} {s:S} {ρ:En} {σ:St} {H:Hp} {A:List Addr}
end
end VT
namespace VT
open PySem PySem.Spec PyProof.Rows L2
section
variable {K:PySem.W.Frag} {H:Hp} {A:List Addr}
end
section
variable {X:Cx} {M:Mz} {o:Expr} {ps:List Stp} {C:Addr} {f:Str} {pos apos cpos fpos npos:Pos}
end
end VT
namespace VT
open PySem PySem.Spec PyProof.Rows L2
section
variable {K:PySem.W.Frag} {M:Mz} {O:List (Option Addr)} {fp:List Addr} {s:S} {ρ:En} {σ:St} {H:Hp} {A:List Addr}
end
end VT
namespace PySem
open Sem (wp)
section
variable {prog:Program} {w:World} {A:Around} {E:Value→Shared→Prop} {s:Shared}
variable {it d:Addr} {o:Obj} {es:Array DictEntry} {ep i:Nat}
end
end PySem
namespace VT
open PySem PySem.Spec PyProof.Rows L2
section
variable {X:Cx} {Z:Zc} {tg l:Expr}
end
end VT
namespace VT
open PySem PySem.Spec PyProof.Rows L2
section
variable {X:Cx} {Z:Zc}
end
section
variable {κ α:Type} [DecidableEq κ]
end
section
variable {X:Cx} {Z:Zc} {e a b:Expr} {es:List Expr} {fa fb fc:FE} {g:FA} {pos:Pos}
end
end VT
namespace PySem
open Sem (wp)
section
variable {prog:Program} {w:World} {A:Around} {E:Value→Shared→Prop} {s:Shared} {it d:Addr} {o:Obj} {es:Array DictEntry} {ep i:Nat} {ok ov:Value}
end
end PySem
namespace VT
open PySem PySem.Spec PyProof.Rows L2
section
variable {X:Cx} {Z:Zc} {l:Expr}
end
end VT
namespace VT
open PySem PySem.Spec PyProof.Rows L2
structure MG where
 a:Addr
 dx:Addr
 a1:Addr
 a2:Addr
 C:Addr
 H0:Hp
 n1:a≠a1
 n2:a≠a2
 n3:a1≠a2
 hb:Bool
structure S2 where
 k1:List (List Key)
 t1:List T
 k2:List (List Key)
 t2:List T
section
variable {K:PySem.W.Frag} {M:MG} {tm:List (T×V)} {ρ:En} {s:S2} {σ:St} {H H':Hp}
end
end VT
namespace VT
open PySem PySem.Spec PyProof.Rows L2
structure GEn where
 nx:En→S2→Prop
 rt:S2→T→Prop
 bk:En→S2→Prop:=fun _ _=>False
 ct:En→S2→Prop:=fun _ _=>False
abbrev FG2:=GEn→En→S2→Prop
section
variable {X:Cx} {M:MG} {st:Stmt} {rest:List Stmt} {g u:FG2} {e:Expr} {pos:Pos}
end
end VT
namespace VT
open PySem PySem.Spec PyProof.Rows L2
section
variable {X:Cx} {Z:Zc} {e a b:Expr} {es:List Expr} {fa fb fc:FE} {g:FA} {pos:Pos}
end
section
variable {P:Program} {w:World} {K:PySem.W.Frag} {mg:Str→Option Value} {base:Heap}
end
end VT
namespace VT
open PySem PySem.Spec PyProof.Rows L2
section
variable {K:PySem.W.Frag} {H H':Hp} {A:List Addr}
end
section
variable {X:Cx} {Z:Zc} {C:Addr} {Gg:T→S2→(S2→T→Prop)→Prop} {Gli:List T→(Rt→Prop)→Prop}
end
end VT
namespace VT
open PySem PySem.Spec PyProof.Rows L2
section
variable {X:Cx} {C:Addr} {F1 F2:Str}
end
section
variable {K:PySem.W.Frag} {H:Hp} {A:List Addr}
end
end VT
namespace VT
open PySem PySem.Spec PyProof.Rows L2
section
variable {X:Cx} {M:Mz} {o mk:Expr} {ps:List Stp} {C:Addr} {F1 F2:Str} {pos apos cpos:Pos}
end
end VT
namespace VT
open PySem PySem.Spec PyProof.Rows L2
section
variable {P:Program} {w:World} {K:PySem.W.Frag} {mg:Str→Option Value} {base:Heap}
end
end VT
namespace VT
open PySem PySem.Spec PyProof.Rows L2
section
variable {X:Cx} {M:Mz} {es:List Expr} {pos:Pos}
end
end VT
namespace VT
open PySem PySem.Spec PyProof.Rows L2
section
variable {X:Cx} {M:Mz} {g:FM} {pos:Pos}
end
end VT
namespace VT
open PySem PySem.Spec PyProof.Rows L2
section
variable {X:Cx} {M:Mz} {fe e:Expr} {es:List Expr} {pos:Pos}
end
end VT
namespace VT
open PySem PySem.Spec PyProof.Rows L2
section
variable {K:PySem.W.Frag} {H0 H:Hp} {Ox:List Addr} {x C:Addr} {ns:List Str} {xs:List S}
end
end VT
namespace VT
open PySem PySem.Spec PyProof.Rows L2
section
variable {X:Cx} {C CL:Addr}
end
section
variable {P:Program} {w:World} {K:PySem.W.Frag} {mg:Str→Option Value} {base:Heap}
end
end VT
namespace VT
open PySem PySem.Spec PyProof.Rows L2
structure DeepR (K:PySem.W.Frag) (H H':Hp) (us:List T) (u:T) (p l:Addr):Prop where
 same:Same H H'
 tup:∃ v,H' p=some (.tup [.ref l,v])∧At K H' [] u v
 new:H l=none
 lst:∃ vs,H' l=some (.lst vs)∧AtL K H' [] us vs
 i1:imms us=true
 i2:imm u=true
abbrev FMD:=MEn→(List T→T→Prop)→En→S→Prop
section
variable {X:Cx} {M:Mz} {st:Stmt} {rest:List Stmt} {g:FM} {u:FMD} {pos:Pos}
end
section
variable {P:Program} {w:World} {K:PySem.W.Frag} {mg:Str→Option Value} {base:Heap}
end
end VT
namespace VT
open PySem PySem.Spec PyProof.Rows L2
section
variable {X:Cx} {Z:Zc}
end
end VT
namespace VT
open PySem PySem.Spec PyProof.Rows L2
section
variable {P:Program} {w:World} {K:PySem.W.Frag} {mg:Str→Option Value} {base:Heap}
end
section
variable {X:Cx} {Z:Zc} {k n:Nat} {f:Addr} {fd:FuncData} {ps:List Str} {G:List T→(List T→T→Prop)→Prop} {x:Str} {p pos:Pos} {e:Expr} {es:List Expr} {g:FA} {ds:List Value} {dvs:List V} {dts:List T}
def lDR (X:Cx) (Z:Zc) (tm:List (T×V)) (f:En→(List T→T→Prop)→Prop):TE:=fun σ H Q=>∃ ρ O q,EnvAt X.K Z tm O ρ σ H∧f ρ q∧∀ us u,q us u→∀ p l H',DeepR X.K H H' us u p l→Q (.ref p) H'
def VDR (X:Cx) (Z:Zc) (e:Expr) (f:En→(List T→T→Prop)→Prop):Prop:=Bx fun tm=>PE X e (lDR X Z tm f)
instance {X:Cx} {Z:Zc} {e:Expr} {f:En→(List T→T→Prop)→Prop}:CoeFun (VDR X Z e f) fun _=>∀ tm,PE X e (lDR X Z tm f):=⟨fun h=>Bx.h h⟩
end
section
variable {P:Program} {w:World} {K:PySem.W.Frag} {mg:Str→Option Value} {base:Heap}
end
structure Hd (K:PySem.W.Frag) (Z:Zc) (i:Nat) (tm:List (T×V)) (p l:Addr) (O:List (Option Addr)) (ρ:En) (σ:St) (H:Hp):Prop where
 I:EnvAt K ⟨hid H (roots O),[],l :: Z.Ox⟩ tm O ρ σ H
 hi:ρ[i]?=some (some (.ob p,false))
 hp:∃ v,H p=some (.tup [.ref l,v])
 hl:∃ vs,H l=some (.lst vs)
 kp:∀ b o,Z.H0 b=some o→H b=some o∧b∉roots O∧b≠l
 lO:l∉Z.Ox
section
variable {K:PySem.W.Frag} {Z:Zc} {i:Nat} {tm:List (T×V)} {p l:Addr} {O O':List (Option Addr)} {ρ ρ':En} {σ σ':St} {H H':Hp} {as:List Addr}
end
def lSH (X:Cx) (Z:Zc) (i:Nat) (tm:List (T×V)) (g:Addr→FS):TS:=fun D σ H=>∃ ρ O d p l,Hd X.K Z i tm p l O ρ σ H∧g p d ρ∧Fin X.K Z tm d D
def VSsH (X:Cx) (Z:Zc) (i:Nat) (st:List Stmt) (g:Addr→FS):Prop:=Bx fun tm=>PSs X st (lSH X Z i tm g)
instance {X:Cx} {Z:Zc} {i:Nat} {st:List Stmt} {g:Addr→FS}:CoeFun (VSsH X Z i st g) fun _=>∀ tm,PSs X st (lSH X Z i tm g):=⟨fun h=>Bx.h h⟩
section
variable {X:Cx} {Z:Zc} {i:Nat} {st:Stmt} {rest:List Stmt} {g:FS} {u:Addr→FS} {pos:Pos}
end
end VT
namespace VT
open PySem PySem.Spec PyProof.Rows L2
open AutoSeq1 (wpAny_loadPart')
section
variable {prog:Program} {w:World} {A:Around} {E:Value→Shared→Prop} {s:Shared}
end
section
variable {X:Cx}
end
end VT
namespace VT
open PySem PySem.Spec PyProof.Rows L2
end VT
namespace VT
open PySem PySem.Spec PyProof.Rows L2
section
variable {P:Program} {w:World} {K:PySem.W.Frag} {mg:Str→Option Value} {base:Heap}
theorem rp_pz:∀ n (as:List Addr) k,pz (List.replicate n false) as k=[]
 | 0,_,_=>rfl
 | n+1,as,k=>rp_pz n as (k+1)
theorem rp_fin:∀ n (ρ:En),fins (List.replicate n false) ρ=[]
 | 0,_=>rfl
 | n+1,ρ=>rp_fin n ρ.tail
theorem rp_en:∀ (ts:List T),en0 (List.replicate ts.length false) ts=ts.map fun t=>some (t,false)
 | []=>rfl
 | t :: ts=>by rw [List.length_cons,List.replicate_succ,en0,rp_en ts]; rfl
end
section
variable {X:Cx} {Z:Zc} {k n:Nat} {f:Addr} {fd:FuncData} {ps:List Str} {G:List T→(Rt→Prop)→Prop} {x:Str} {p pos:Pos} {e:Expr} {es:List Expr} {g:FA} {ds:List Value} {dvs:List V} {dts:List T}
end
end VT
namespace CLO
open PySem PySem.Spec PyProof.Rows L2 VT
def dlt (H:Hp) (cs:List Addr):Hp:=fun b=>if b∈cs then none else H b
def mrg (H:Hp) (cs:List Addr) (H':Hp):Hp:=fun b=>if b∈cs then H b else H' b
theorem dlt_in {H:Hp} {cs:List Addr} {b:Addr} (h:b∈cs):dlt H cs b=none:=by unfold dlt; rw [if_pos h]
theorem dlt_out {H:Hp} {cs:List Addr} {b:Addr} (h:b∉cs):dlt H cs b=H b:=by unfold dlt; rw [if_neg h]
theorem mrg_in {H H':Hp} {cs:List Addr} {b:Addr} (h:b∈cs):mrg H cs H' b=H b:=by unfold mrg; rw [if_pos h]
theorem mrg_out {H H':Hp} {cs:List Addr} {b:Addr} (h:b∉cs):mrg H cs H' b=H' b:=by unfold mrg; rw [if_neg h]
theorem dlt_none {H:Hp} {cs:List Addr} {b:Addr} (h:H b=none):dlt H cs b=none:=by unfold dlt; split; rfl; exact h
def Ext (H:Hp) (cs:List Addr):Prop:=∀ b∈cs,∃ o,H b=some (obX b o)
theorem Ext.no {H:Hp} {cs:List Addr} (x:Ext H cs) {b:Addr} {u:HO} (h:H b=some u) (hu:∀ o,u≠obX b o):b∉cs:=fun z=>by
 obtain ⟨o,e⟩:=x b z
 rw [h] at e
 exact hu o (Option.some.inj e)
section
variable {K:PySem.W.Frag} {H:Hp} {O cs:List Addr}
theorem rd_del (x:Ext H cs) {a:Addr} {u:HO} (hu:∀ o,u≠obX a o) (h:Rd H a u):Rd (dlt H cs) a u:=by
 rcases h with h | ⟨o,h⟩
 · exact .inl (by rw [dlt_out (x.no h hu)]; exact h)
 · exact .inr ⟨o,by rw [dlt_out (x.no h fun o z=>by cases z)]; exact h⟩
theorem sqT_del (x:Ext H cs) {a:Addr} {vs:List V} (h:SqT K H a vs):SqT K (dlt H cs) a vs:=by
 rcases h with h | h
 · exact .inl (rd_del x (fun o z=>by cases z) h)
 · exact .inr h
mutual
theorem at_del (x:Ext H cs):∀ {t:T} {v:V},plainT t=true→At K H O t v→At K (dlt H cs) O t v
 | .non,_,_,h=>by simpa only [At] using h
 | .bl _,_,_,h=>by simpa only [At] using h
 | .int _,_,_,h=>by simpa only [At] using h
 | .str _,_,_,h=>by simpa only [At] using h
 | .tup ts,_,p,h=>by
   simp only [At] at h ⊢
   simp only [plainT] at p
   obtain ⟨a,vs,e,h1,h2⟩:=h
   exact ⟨a,vs,e,sqT_del x h1,atL_del x p h2⟩
 | .lst ts,_,p,h=>by
   simp only [At] at h ⊢
   simp only [plainT] at p
   obtain ⟨a,vs,e,h1,h2⟩:=h
   exact ⟨a,vs,e,h1.imp (fun z=>⟨rd_del x (fun o z=>by cases z) z.1,z.2⟩) id,atL_del x p h2⟩
 | .dk _ _,_,p,_=>by simp only [plainT] at p; cases p
 | .dt _ _,_,p,_=>by simp only [plainT] at p; cases p
 | .df _ _ _,_,p,_=>by simp only [plainT] at p; cases p
 | .dz _ _ _,_,p,_=>by simp only [plainT] at p; cases p
 | .dc _ _ _,_,p,_=>by simp only [plainT] at p; cases p
 | .ds _ _,_,p,_=>by simp only [plainT] at p; cases p
 | .clo _ _,_,p,_=>by simp only [plainT] at p; cases p
 | .kt _,_,p,_=>by simp only [plainT] at p; cases p
 | .ins _ _ _,_,p,_=>by simp only [plainT] at p; cases p
 | .pin _ _,_,p,_=>by simp only [plainT] at p; cases p
 | .ob _,_,p,_=>by simp only [plainT] at p; cases p
 | .ty _,_,p,_=>by simp only [plainT] at p; cases p
theorem atL_del (x:Ext H cs):∀ {ts:List T} {vs:List V},plainTs ts=true→AtL K H O ts vs→AtL K (dlt H cs) O ts vs
 | [],_,_,h=>by simpa only [AtL] using h
 | t :: ts,_,p,h=>by
   simp only [AtL] at h ⊢
   simp only [plainTs,Bool.and_eq_true] at p
   obtain ⟨v,r,e,h1,h2⟩:=h
   exact ⟨v,r,e,at_del x p.1 h1,atL_del x p.2 h2⟩
end
theorem root_del (x:Ext H cs) {a:Addr} {t:T} (p:plainT t=true) (h:Root K H O a t):Root K (dlt H cs) O a t:=by
 cases t with
 | lst ts =>
   obtain ⟨vs,e,q⟩:=h
   simp only [plainT] at p
   exact ⟨vs,by rw [dlt_out (x.no e fun o z=>by cases z)]; exact e,atL_del x p q⟩
 | dk _ _=>simp only [plainT] at p; cases p
 | dt _ _=>simp only [plainT] at p; cases p
 | ins _ _ _=>simp only [plainT] at p; cases p
 | _=>exact h.elim
end
theorem hok_del {P:Program} {w:World} {H:Hp} {cs:List Addr} {h:Heap} (x:Ext H cs) (ok:HOk P w H h):HOk P w (dlt H cs) h:=fun b u z=>by
 have n:b∉cs:=fun y=>by rw [dlt_in y] at z; cases z
 rw [dlt_out n] at z
 exact (ok b u z).stay (fun _ _ _ y=>y) (fun c y=>by rw [dlt_out (x.no y fun o z=>by cases z)]; exact y) fun c xs y=>by rw [dlt_out (x.no y fun o z=>by cases z)]; exact y
theorem hok_mrg {P:Program} {w:World} {H H':Hp} {cs fs:List Addr} {h h':Heap} (x:Ext H cs) (ok:HOk P w H h) (ok':HOk P w H' h') (u:Un fs [] (dlt H cs) H' h h') (nf:∀ b∈cs,b∉fs) (hn:∀ b∈cs,H' b=none):HOk P w (mrg H cs H') h':=fun b o z=>by
 by_cases y:b∈cs
 · rw [mrg_in y] at z
   obtain ⟨ob,e⟩:=x b y
   rw [e] at z
   cases z
   obtain ⟨h1,_,h3⟩:=(show ObjOk P w H h b (obX b ob) from ok b _ e)
   have h1:h.get? b=some ob:=h1
   have h2:=u.keep b ob h1 (dlt_in y) (nf b y) (by simp)
   exact ⟨h2,⟨_,h2⟩,h3⟩
 · rw [mrg_out y] at z
   exact (ok' b o z).stay (fun _ _ _ q=>q) (fun c q=>by rw [mrg_out fun m=>by rw [hn c m] at q; cases q]; exact q) fun c xs q=>by rw [mrg_out fun m=>by rw [hn c m] at q; cases q]; exact q
theorem un_mrg {H H':Hp} {cs fs:List Addr} {h h':Heap} (x:Ext H cs) (u:Un fs [] (dlt H cs) H' h h'):Un fs [] H (mrg H cs H') h h' where
 keep:=fun b o q n=>u.keep b o q (dlt_none n)
 slot:=fun b o q n=>u.slot b o q (dlt_none n)
 free:=fun b o q n e=>by by_cases y:b∈cs; rw [mrg_in y]; exact n; rw [mrg_out y]; exact u.free b o q (dlt_none n) e
 there:=u.there
 tups:=fun b xs z=>by rw [mrg_out (x.no z fun o y=>by cases y)]; exact u.tups b xs (by rw [dlt_out (x.no z fun o y=>by cases y)]; exact z)
 frzs:=fun b o v z=>by rw [mrg_out (x.no z fun o y=>by cases y)]; exact u.frzs b o v (by rw [dlt_out (x.no z fun o y=>by cases y)]; exact z)
 tbls:=fun b ps z=>by rw [mrg_out (x.no z fun o y=>by cases y)]; exact u.tbls b ps (by rw [dlt_out (x.no z fun o y=>by cases y)]; exact z)
structure CloScope (N:List Str) (p:Str) (F:FnS):Prop where
 kind:F.scope.kind = .function
 co:F.scope.isCoroutine=false
 gen:F.scope.isGenerator=false
 nd:N.Nodup
 pre:N.take (F.free.length+1)=p :: F.free
 par:F.scope.names.lookup p=some .local
 nocell:∀ y∈F.scope.names,y.2≠.cell
 fr:∀ y∈F.scope.names,y.2 = .free→y.1∈F.free
 fr2:∀ y∈F.free,F.scope.names.lookup y=some .free
def cxX (P:Program) (w:World) (K:PySem.W.Frag) (mg:Str→Option Value) (base:Heap) (N:List Str) (F:FnS) (f c:Addr) (cl:List (Str×Addr)) (A:Around) (outer:List Env) (s:Shared) (H:Hp):Cx where
 prog:=P
 w:=w
 K:=K
 mg:=mg
 base:=base
 A:=A.deeper (PySem.W.envX F.qual F.scope s.heap.objs.size f (.ref c) cl)
 N:=N
 s₀:=s
 H₀:=H
 env:=PySem.W.envX F.qual F.scope s.heap.objs.size f (.ref c) cl
 outer:=outer
 stack:=PySem.W.envX F.qual F.scope s.heap.objs.size f (.ref c) cl :: outer
 ex:=[]
 calm:=true
 fn:=fun x=>!F.free.contains x
 pn:=[]
 xe:=fun _ _=>False
theorem lookup_has:∀ {cl:List (Str×Addr)} {x:Str},x∈cl.map (·.1)→∃ c,cl.lookup x=some c
 | (y,d) :: cl,x,h=>by
   rw [List.lookup_cons]
   by_cases e:x=y
   · subst e; exact ⟨d,by simp⟩
   · have:(x == y)=false:=by simpa using e
     rw [this]
     rcases List.mem_cons.mp h with z | z
     · exact absurd z e
     · exact lookup_has z
theorem lookup_at:∀ {cl:List (Str×Addr)} {j:Nat} {x:Str} {c:Addr},(cl.map (·.1)).Nodup→cl[j]?=some (x,c)→cl.lookup x=some c
 | (y,d) :: cl,0,x,c,nd,h=>by cases h; rw [List.lookup_cons]; simp
 | (y,d) :: cl,j+1,x,c,nd,h=>by
   rw [List.map_cons,List.nodup_cons] at nd
   have h:cl[j]?=some (x,c):=h
   have ne:(x == y)=false:=by
    have:x≠y:=fun z=>nd.1 (by rw [← z]; exact List.mem_map.mpr ⟨_,List.mem_of_getElem? h,rfl⟩)
    simpa using this
   rw [List.lookup_cons,ne]
   exact lookup_at nd.2 h
theorem paired_get {α β:Type} {F:α→β→Prop}:∀ {l:List α} {m:List β},Paired F l m→∀ {j:Nat} {b:β},m[j]?=some b→∃ a,l[j]?=some a∧F a b
 | _,_,.cons r t,0,b,h=>by cases h; exact ⟨_,rfl,r⟩
 | _,_,.cons r t,j+1,b,h=>paired_get t h
theorem paired_mem1 {α β:Type} {F:α→β→Prop}:∀ {l:List α} {m:List β},Paired F l m→∀ {a:α},a∈l→∃ b,F a b
 | _,_,.cons r t,a,h=>by
   rcases List.mem_cons.mp h with rfl | z
   · exact ⟨_,r⟩
   · exact paired_mem1 t z
theorem paired_len {α β:Type} {F:α→β→Prop}:∀ {l:List α} {m:List β},Paired F l m→l.length=m.length
 | _,_,.nil=>rfl
 | _,_,.cons r t=>by rw [List.length_cons,List.length_cons,paired_len t]
section
variable {P:Program} {w:World} {K:PySem.W.Frag} {mg:Str→Option Value} {base:Heap} {N:List Str} {F:FnS} {f c:Addr} {cl:List (Str×Addr)} {A:Around} {outer:List Env} {s:Shared} {H:Hp} {p:Str}
theorem inv_clo {O:List Addr} {ws:List V} {u:Value} {v:V} {h1:Heap} {tk:Nat} (S:CloScope N p F) (hd:A.handled=none) (e0:Env0 P w K mg base A outer s H)
  (h5:cl.map (·.1)=F.free) (h6:(cl.map (·.2)).Nodup) (h8:Paired (fun (p:Str×Addr) v=>∃ o u,DkAt H O p.2 (obX p.2 o)∧o.data = .cell (some u)∧RelV v u) cl ws) (rv:RelV v u)
  (hn:h1.Ns s.heap.objs.size (fun x=>([(p,u)]:List (Str×Value)).reverse.lookup x)) (hk:∀ b o,s.heap.get? b=some o→h1.get? b=some o) :
  Inv (cxX P w K mg base N F f c cl A outer s (dlt H (cl.map (·.2)))) [] (L2.start N (v :: ws)) (dlt H (cl.map (·.2))) { s with heap:=h1,toks:=tk }:=by
 have lw:=paired_len h8
 have lf:F.free.length=ws.length:=by rw [← h5,List.length_map,lw]
 have ap:cl.Pairwise fun x y=>x.2≠y.2:=by rw [List.Nodup,List.pairwise_map] at h6; exact h6
 have xt:Ext H (cl.map (·.2)):=fun b hb=>by
  obtain ⟨q,hq,rfl⟩:=List.mem_map.mp hb
  obtain ⟨v,o,u,h1,_⟩:=paired_mem1 h8 hq
  exact ⟨o,h1.1⟩
 have noA:∀ b:Addr,b∉(cxX P w K mg base N F f c cl A outer s (dlt H (cl.map (·.2)))).ex:=fun b z=>absurd (show b∈([]:List Addr) from z) (by simp)
 have ndf:F.free.Nodup:=by
  have:=S.nd.sublist (List.take_sublist (F.free.length+1) N)
  rw [S.pre,List.nodup_cons] at this
  exact this.2
 have inF:∀ {x:Str} {d:Addr},cl.lookup x=some d→x∈F.free:=fun {x d} h=>by rw [← h5]; exact List.mem_map.mpr ⟨_,PySem.mem_of_lookup h,rfl⟩
 refine ⟨⟨e0.mod,S.kind,rfl,rfl,Nat.le_refl _,fun y z d h1 h2=>name_of_addr ap (PySem.mem_of_lookup h1) (PySem.mem_of_lookup h2),fun y hy=>?_,fun y d hf h=>?_,fun _=>hd,Around.frames_deeper e0.frames,.inr ⟨rfl,rfl⟩,fun b z=>absurd z (noA b),fun b o e=>⟨(e0.bs b o e).1,dlt_none (e0.bs b o e).2⟩,e0.bsz,fun b _ _=>noA b,fun b z=>absurd z (noA b),e0.funs,fun b hb=>dlt_none (e0.frf b hb)⟩,
  rfl,e0.bare,Un.kept hk,⟨_,hn,fun i y v' h1 h2 h3=>?_⟩,fun y d h=>?_,dlt_none (e0.hok.fresh (Nat.le_refl _)),fun y d h=>dlt_in (List.mem_map.mpr ⟨_,PySem.mem_of_lookup h,rfl⟩),fun q hq=>absurd (show q∈([]:List (Addr×Obj)) from hq) (by simp),(hok_del xt e0.hok).kept hk,?_⟩
 · have hy:F.scope.names.lookup y=some .cell∨F.scope.names.lookup y=some .free:=hy
   rcases hy with hy | hy
   · exact absurd rfl (S.nocell _ (PySem.mem_of_lookup hy))
   · exact lookup_has (cl:=cl) (by rw [h5]; exact S.fr _ (PySem.mem_of_lookup hy) rfl)
 · have h:cl.lookup y=some d:=h
   have hf:(!F.free.contains y)=true:=hf
   rw [List.contains_iff_mem.mpr (inF h)] at hf
   cases hf
 · have hp:∀ {i:Nat} {y:Str},N[i]?=some y→i < ws.length+1→(p :: F.free)[i]?=some y:=fun {i y} h hi=>by rw [← S.pre,List.getElem?_take_of_lt (by omega)]; exact h
   have hi:i < (v :: ws).length:=by
    unfold L2.start at h2
    by_cases hi:i < (v :: ws).length
    · exact hi
    · rw [List.getElem?_append_right (by simpa using hi),List.getElem?_replicate] at h2
      split at h2 <;> cases h2
   have ha:(v :: ws)[i]?=some v':=by
    unfold L2.start at h2
    rw [List.getElem?_append_left (by simpa using hi),List.getElem?_map] at h2
    cases e:(v :: ws)[i]? with
    | none=>rw [e] at h2; cases h2
    | some a=>rw [e] at h2; cases h2; rfl
   have hy:=hp h1 hi
   cases i with
   | zero =>
     cases hy
     cases ha
     refine ⟨u,rv,.inl ⟨S.par,?_⟩⟩
     show ([(p,u)]:List (Str×Value)).reverse.lookup p=some u
     simp
   | succ j =>
     have ha:ws[j]?=some v':=ha
     have hy:F.free[j]?=some y:=hy
     obtain ⟨⟨x,d⟩,hj,o,u',q1,q2,q3⟩:=paired_get h8 ha
     have ex:x=y:=by
      rw [← h5,List.getElem?_map,hj] at hy
      exact Option.some.inj hy
     subst ex
     refine ⟨u',q3,.inr ⟨.inr (S.fr2 _ (List.mem_of_getElem? hy)),d,lookup_at (cl:=cl) (by rw [h5]; exact ndf) hj,?_⟩⟩
     obtain ⟨g1,_,_⟩:=(show ObjOk P w H s.heap d (obX d o) from e0.hok d _ q1.1)
     exact ⟨o,hk _ _ g1,q2⟩
 · obtain ⟨v2,o,u',q1,q2,_⟩:=paired_mem1 h8 (PySem.mem_of_lookup h)
   obtain ⟨g1,_,_⟩:=(show ObjOk P w H s.heap d (obX d o) from e0.hok d _ q1.1)
   exact ⟨some u',o,hk _ _ g1,q2⟩
 · show (L2.start N (v :: ws)).length=N.length
   have hl:ws.length+1≤N.length:=by
    have:=congrArg List.length S.pre
    rw [List.length_take,List.length_cons] at this
    omega
   unfold L2.start
   rw [List.length_append,List.length_map,List.length_replicate,List.length_cons]
   omega
end
end CLO
namespace CLO
open PySem PySem.Spec PyProof.Rows L2 VT
def gClo (F:FnS) (G:List T→T→(List T→Rt→Prop)→Prop):GT:=fun ts q=>∃ ct t,ts=[.clo F ct,t]∧plainTs ct=true∧plainT t=true∧G ct t q
def CloOk (P:Program) (w:World) (K:PySem.W.Frag) (mg:Str→Option Value) (base:Heap) (k:Nat) (F:FnS) (b:Bool) (G:List T→T→(List T→Rt→Prop)→Prop):Prop :=
 ∀ (A:Around) (outer:List Env) (s:Shared) (H:Hp) (f:Addr) (us:List Value) (vs:List V) (Q:VK) (E:XK),Room k A→Env0 P w K mg base A outer s H→Vals vs us→spOf K [false,b] (gClo F G) (.ref f :: vs) H Q E →
  codeAny (model P w) A (.call (.ref f) ⟨us,[]⟩) (CR CX0 outer P w H s Q E) s
theorem fins1 (b:Bool) (n:Nat) (ρ:En):fins (b :: List.replicate n false) ρ=fins [b] ρ:=by
 cases b with
 | false=>simp only [fins]; exact rp_fin n _
 | true =>
   cases ρ with
   | nil=>simp only [fins]; rw [rp_fin]
   | cons x ρ =>
     cases x with
     | none=>simp only [fins]; rw [rp_fin]
     | some y=>obtain ⟨t,c⟩:=y; simp only [fins]; rw [rp_fin]
theorem en1 (b:Bool) (t:T) (ct:List T):en0 (b :: List.replicate ct.length false) (t :: ct)=some (t,b) :: ct.map fun t=>some (t,false):=by
 rw [en0,rp_en]
section
variable {P:Program} {w:World} {K:PySem.W.Frag} {mg:Str→Option Value} {base:Heap} {N:List Str} {F:FnS} {p:Str} {k:Nat} {b:Bool} {G:List T→T→(List T→Rt→Prop)→Prop}
theorem fn_clo (S:CloScope N p F) (bnd:∀ (cl:List (Str×Addr)) (doc pm ctv:Value) (c:Addr) (u:Value),bindArgs (PySem.W.fnX F.name F.qual F.params F.body F.scope cl .none .none doc pm none (.ref c) ctv) ⟨[u],[]⟩=pure [(p,u)])
  (hbody:∀ (A:Around) (outer:List Env) (s:Shared) (H:Hp) (f c:Addr) (cl:List (Str×Addr)) (as Ox:List Addr),Room k (A.deeper (PySem.W.envX F.qual F.scope s.heap.objs.size f (.ref c) cl))→∀ ct t q,ct.length=F.free.length→G ct t q →
    ∃ g,VSs (cxX P w K mg base N F f c cl A outer s H) ⟨H,pz [b] as 0,Ox⟩ F.body g∧g { nx:=fun ρ=>q (fins [b] ρ) (.vw .non),rt:=fun ρ r=>q (fins [b] ρ) r } ((some (t,b) :: ct.map fun t=>some (t,false)) ++ List.replicate (N.length - (ct.length+1)) none)) :
  CloOk P w K mg base (k+1) F b G:=by
 intro A outer s H f us vs Q E hr e0 rv hsp
 obtain ⟨ts,as,Ox,q,nd,nx,ox,ha,⟨ct,t,rfl,pc,pt,hG⟩,kk⟩:=hsp
 obtain ⟨_,_,_,_,e1,e2,hA,ha⟩:=ha
 cases e1
 cases e2
 simp only [At] at hA
 obtain ⟨f',ws,ef,hC,hW⟩:=hA
 cases ef
 obtain ⟨cl,c,oc,fv,tq,doc,pm,ctv,h1,h2,h3,h4,h5,h6,h7,h8⟩:=hC
 obtain ⟨v,rfl,hv⟩:∃ v,vs=[v]∧((b=false∧as=[]∧At K H (as ++ Ox) t v)∨(b=true∧∃ a,as=[a]∧v = .ref a∧Root K H (as ++ Ox) a t)):=by
  cases b with
  | false =>
    obtain ⟨_,_,v,_,z1,z2,z3,z4,z5,z6⟩:=ha
    cases z1
    subst z6
    exact ⟨v,z2,.inl ⟨rfl,z4,z3⟩⟩
  | true =>
    obtain ⟨a,_,_,_,_,z1,z2,z3,z4,z5,z6,z7⟩:=ha
    cases z2
    subst z5 z7
    exact ⟨.ref a,z3,.inr ⟨rfl,a,z1,rfl,z4⟩⟩
 obtain ⟨u,rfl,ru⟩:=vals1 rv
 have xt:Ext H (cl.map (·.2)):=fun b hb=>by
  obtain ⟨q,hq,rfl⟩:=List.mem_map.mp hb
  obtain ⟨v,o,u,h1,_⟩:=paired_mem1 h8 hq
  exact ⟨o,h1.1⟩
 have nOx:∀ d∈cl.map (·.2),d∉as ++ Ox:=fun b hb=>by
  obtain ⟨q,hq,rfl⟩:=List.mem_map.mp hb
  obtain ⟨v,o,u,h1,_⟩:=paired_mem1 h8 hq
  exact h1.2
 have lw:ct.length=ws.length:=hW.length.symm
 have lf:ct.length=F.free.length:=by rw [← h5,List.length_map,paired_len h8,lw]
 have KX:K.In s.heap:=e0.mod.kin.keeps fun b o e=>(e0.bs b o e).1
 have lim:s.heap.NoLimit:=e0.mod.nolimit.keeps fun b o e=>(e0.bs b o e).1
 obtain ⟨g1,_,_⟩:=(show ObjOk P w H s.heap f (obX f _) from e0.hok f _ h1.1)
 obtain ⟨g2,_,_⟩:=(show ObjOk P w H s.heap c (obX c _) from e0.hok c _ h2.1)
 have g1:s.heap.get? f=some (PySem.W.fnMade F.name F.qual F.params F.body F.scope cl doc pm c ctv):=g1
 have g2:s.heap.get? c=some oc:=g2
 refine codeAny_call_function hr.depth g1 rfl S.co S.gen rfl ⟨c,oc,fv,tq,rfl,g2,h3,h4⟩ (BindsTo.of_eq (bnd cl doc pm ctv c u) _ _ _ _ ?_)
 refine wpAny_newFunctionEnv S.nocell (fun y hy=>by rw [List.mem_singleton.mp hy]; exact S.par) (fun h1' hn hs=>?_) S.kind
 have hk:∀ b o,s.heap.get? b=some o→h1'.get? b=some o:=fun b o e=>(hs.2 b (Nat.ne_of_lt (Heap.lt_size e))).trans (Heap.get?_push_of_some _ e)
 refine ⟨lim.keeps hk,codeAny_func ?_⟩
 have I:=inv_clo (N:=N) (f:=f) (c:=c) (tk:=s.toks+1) S hr.hd e0 h5 h6 h8 ru hn hk
 have hrD:Room k (A.deeper (PySem.W.envX F.qual F.scope s.heap.objs.size f (.ref c) cl)):=hr.deeper _
 obtain ⟨g,hg,hq⟩:=hbody A outer s (dlt H (cl.map (·.2))) f c cl as Ox hrD ct t q lf hG
 have oxD:∀ a∈Ox,dlt H (cl.map (·.2)) a≠none:=fun a h=>by
  rw [dlt_out fun z=>nOx a z (List.mem_append_right _ h)]
  exact ox a h
 have args:ArgsAt K (dlt H (cl.map (·.2))) (as ++ Ox) (b :: List.replicate ct.length false) as (t :: ct) (v :: ws):=by
  have hW':=args_views (K:=K) (n:=ct.length) rfl (atL_del xt pc hW)
  rcases hv with ⟨rfl,rfl,hv⟩ | ⟨rfl,a,rfl,rfl,hv⟩
  · exact ⟨t,ct,v,ws,rfl,rfl,at_del xt pt hv,hW'⟩
  · exact ⟨a,[],t,ct,ws,rfl,rfl,rfl,root_del xt pt hv,hW'⟩
 have st:=start_ok (X:=cxX P w K mg base N F f c cl A outer s (dlt H (cl.map (·.2)))) (N:=N) (g:=g) (Q:=fun v' H'=>(∀ d∈cl.map (·.2),H' d=none)→Q v' (mrg H (cl.map (·.2)) H')) (q:=q) nd nx oxD args (fun us r hr' v' H' fr z hno=>?_) (by
  rw [en1]
  simp only [fins1]
  exact hq)
 · have epz:pz (b :: List.replicate ct.length false) as 0=pz [b] as 0:=by
    rcases hv with ⟨rfl,rfl,hv⟩ | ⟨rfl,a,rfl,rfl,hv⟩
    · simp only [pz]; exact rp_pz _ _ _
    · simp only [pz]; rw [rp_pz]
   rw [epz] at st
   refine wpAny_mono (hg [] [] _ _ _ _ I st) (fun fl s' hsP=>?_) fun e s' z=>z.elim
   have fin:∀ {σ':L2.St} {H':Hp} {v:V} {u:Value},Inv (cxX P w K mg base N F f c cl A outer s (dlt H (cl.map (·.2)))) [] σ' H' s'→RelV v u→((∀ d∈cl.map (·.2),H' d=none)→Q v (mrg H (cl.map (·.2)) H'))→CE outer P w H s Q u s':=fun {σ' H' v u} J rv q=>by
    have hno:∀ d∈cl.map (·.2),H' d=none:=fun d hd=>by
     obtain ⟨o,e⟩:=xt d hd
     obtain ⟨q1,_,_⟩:=(show ObjOk P w H s.heap d (obX d o) from e0.hok d _ e)
     exact J.base.free d o q1 (dlt_in hd) (by intro z; cases z)
    have ub:Un (frs outer) [] (dlt H (cl.map (·.2))) H' s.heap s'.heap:=J.base
    refine ⟨v,mrg H (cl.map (·.2)) H',J.os,J.bare,un_mrg xt ub,hok_mrg xt e0.hok J.hok ub (fun d hd z=>?_) hno,rv,q hno⟩
    obtain ⟨o,e⟩:=xt d hd
    rw [e0.frf d z] at e
    cases e
   cases fl with
   | ret u=>obtain ⟨v,σ',H',J,rv,q⟩:=hsP; exact fin J rv q
   | next=>obtain ⟨σ',H',J,q⟩:=hsP; exact fin (v:=V.non) (u:=Value.none) J rfl q
   | brk=>obtain ⟨_,_,_,q⟩:=hsP; exact False.elim q
   | cont=>obtain ⟨_,_,_,q⟩:=hsP; exact False.elim q
 · have sm:Same H' (mrg H (cl.map (·.2)) H'):=fun d o e=>by
    rw [mrg_out fun m=>by rw [hno d m] at e; cases e]
    exact e
   refine kk us r hr' v' _ (fun d o e n=>?_) ?_
   · by_cases m:d∈cl.map (·.2)
     · rw [mrg_in m]; exact e
     · rw [mrg_out m]; exact fr d o (by rw [dlt_out m]; exact e) n
   · cases r with
     | vw t=>exact ⟨z.1.same sm,Paired.mapP z.2 fun _ _ y=>Root.same y sm⟩
     | fr t =>
       obtain ⟨d,rfl,z1,z2,z3,z4⟩:=z
       refine ⟨d,rfl,?_,z2,Root.same z3 sm,Paired.mapP z4 fun _ _ y=>Root.same y sm⟩
       have:d∉cl.map (·.2):=fun m=>by
        have hd:=hno d m
        cases t with
        | lst ts=>obtain ⟨_,e,_⟩:=z3; rw [hd] at e; cases e
        | dk _ _=>obtain ⟨_,_,e,_⟩:=z3; rw [hd] at e; cases e
        | dt _ _=>obtain ⟨_,_,e,_⟩:=z3; rw [hd] at e; cases e
        | ins _ _ _=>obtain ⟨_,_,_,e,_⟩:=z3; rw [hd] at e; cases e
        | _=>exact z3
       rw [dlt_out this] at z1
       exact z1
end
end CLO
namespace CLO
open PySem PySem.Spec PyProof.Rows L2 VT
section
variable {X:Cx} {Z:Zc} {k:Nat} {F:FnS} {b:Bool} {G:List T→T→(List T→Rt→Prop)→Prop} {x:Str} {p pos:Pos} {e:Expr}
theorem run_clo (C:CloOk X.prog X.w X.K X.mg X.base k F b G) (hr:Room k X.A) {pins:List (Addr×Obj)} {σ:L2.St} {H:Hp} {s:Shared} (I:Inv X pins σ H s) {f:Addr} {us:List Value} {vs:List V} {Q:VK} (r:Vals vs us) (h:spOf X.K [false,b] (gClo F G) (.ref f :: vs) H Q E0) :
  wpAny (model X.prog X.w) X.A (call (.ref f) us) (EP X pins σ Q) X.xe s:=by
 refine wpAny_call (codeAny_mono (C X.A X.stack s H f us vs Q E0 hr I.env0 r h) fun rr s' hq=>?_)
 cases rr with
 | error e=>exact False.elim hq
 | ok fl =>
   cases fl with
   | ret u=>exact I.after hq
   | next=>exact False.elim hq
   | brk=>exact False.elim hq
   | cont=>exact False.elim hq
theorem clo_slot {tm:List (T×V)} {O:List (Option Addr)} {ρ:En} {σ:L2.St} {H:Hp} {i:Nat} {ct:List T} (E:EnvAt X.K Z tm O ρ σ H) (h:ρ[i]?=some (some (.clo F ct,false))):∃ f,σ[i]?=some (some (V.ref f))∧At X.K H (av Z O) (.clo F ct) (.ref f):=by
 obtain ⟨o,sv,h1,h2,rfl,v,rfl,h3⟩:=E.sl i _ h
 have h4:=h3
 simp only [At] at h4
 obtain ⟨f,vs,rfl,_⟩:=h4
 exact ⟨f,h2,h3⟩
theorem fn_at {tm:List (T×V)} {O:List Addr} {pins:List (Addr×Obj)} {σ:L2.St} {H:Hp} {s:Shared} (I:Inv X pins σ H s) {f:Addr} {ct:List T} (h:At X.K H O (.clo F ct) (.ref f)):PySem.W.FnAt f s.heap:=by
 simp only [At] at h
 obtain ⟨f',vs,ef,⟨cl,c,oc,fv,t,doc,pm,ctv,h1,_⟩,_⟩:=h
 cases ef
 obtain ⟨g1,_,_⟩:=(show ObjOk X.prog X.w H s.heap f (obX f _) from I.hok f _ h1.1)
 exact ⟨_,_,_,_,g1⟩
def fCallQ (F:FnS) (i:Nat) (g:FE) (G0:List T→T→(Rt→Prop)→Prop):FP:=fun ρ Q=>∃ ct,ρ[i]?=some (some (.clo F ct,false))∧plainTs ct=true∧g ρ fun t=>plainT t=true∧G0 ct t Q
theorem vp_callQ (i:Nat) {g:FE} {G0:List T→T→(Rt→Prop)→Prop} (C:CloOk X.prog X.w X.K X.mg X.base k F false fun ct t q=>G0 ct t (q [])) (hr:Room k X.A) (ha:VE X Z e g)
  (hN:X.N[i]?=some x:=by rfl) (hv:Vis X.env.scope x:=by first | exact Or.inl rfl | exact Or.inr (Or.inl rfl) | exact Or.inr (Or.inr rfl)) (hd:(x == ("__debug__" : Str))=false:=by decide)
  (hcd:(x == ("__classdict__" : Str))=false:=by decide) (he:starEach [e] X.env=(false,eval e X.env) :: starEach [] X.env:=by rfl) (hpl:(backTo pos (starEach [] X.env)).any (·.1)=false:=by rfl) :
  VP X Z (.Call (.Name x p) [e] [] pos) (fCallQ F i g G0):=.mk fun tm pins s σ H Q I ⟨ρ,O,q,E,⟨ct,hs,pc,hg⟩,kk⟩=>by
 obtain ⟨f,h2,h3⟩:=clo_slot E hs
 refine wpAny_Call_Name_kw (thn (pe_var hN hv hd hcd pins s σ H (fun v H'=>v = .ref f∧H'=H) I ⟨_,h2,rfl,rfl⟩) fun u s1 ⟨v,H1,I1,r,ev,eH⟩=>?_)
 subst ev eH
 obtain rfl:u=Value.ref f:=r
 refine PySem.W.callWith_F (fn_at (tm:=tm) I1 h3) (thn (pa_cons (ha tm) pa_nil he pos pins s1 σ H1 (fun vs H2=>spP X.K 2 (fun ts q'=>∃ ct t,ts=[.clo F ct,t]∧plainTs ct=true∧plainT t=true∧G0 ct t q') (.ref f :: vs) H2 Q E0∧At X.K H2 (av Z O) (.clo F ct) (.ref f)) I1 ⟨ρ,O,_,E,hg,fun t ⟨pt,hG⟩ v H2 s2 a2=>?_⟩) fun us s2 ⟨vs,H2,I2,r2,q2,q3⟩=>⟨fn_at (tm:=tm) I2 q3,?_⟩) he hpl
 · have h3':=h3.same s2
   have:=call_ok (X:=X) (n:=2) (G:=fun ts q'=>∃ ct t,ts=[.clo F ct,t]∧plainTs ct=true∧plainT t=true∧G0 ct t q') (E.same s2) (AtL.cons h3' (AtL.cons a2 AtL.nil)) rfl ⟨ct,t,rfl,pc,pt,hG⟩ fun r hr v H' s z=>kk r hr v H' (s2.trans s) z
   exact ⟨this,h3'⟩
 · exact run_clo C hr I2 r2 q2
theorem at_frm {K:PySem.W.Frag} {H H':Hp} {O:List Addr} {t:T} {v:V} {a:Addr} {u:HO} (fr:∀ b o,H b=some o→b≠a→H' b=some o) (ha:a∈O) (hu:H a=some u) (hm:mutO u=true) (h:At K H O t v):At K H' O t v:=by
 have ne:∀ b,b∉O→b≠a:=fun b hb e=>hb (by rw [e]; exact ha)
 refine At.map (fun b vs q=>?_) (fun b vs q=>?_) (fun b kvs q=>⟨fr _ _ q.1 (ne b q.2),q.2⟩) (fun b vs q=>fr _ _ q (ne_of q hu (by intro e; subst e; cases hm))) h
 · rcases q with q | q
   · refine .inl ⟨?_,q.2⟩
     rcases q.1 with z | ⟨o',z⟩
     · exact .inl (fr _ _ z (ne b q.2))
     · exact .inr ⟨o',fr _ _ z (ne b q.2)⟩
   · exact .inr q
 · rcases q with z | z
   · refine .inl ?_
     rcases z with z | ⟨o',z⟩
     · exact .inl (fr _ _ z (ne_of z hu (by intro e; subst e; cases hm)))
     · exact .inr ⟨o',fr _ _ z (ne_of z hu (by intro e; subst e; cases hm))⟩
   · exact .inr z
theorem env_lose {K:PySem.W.Frag} {tm:List (T×V)} {O:List (Option Addr)} {ρ:En} {σ:L2.St} {H H':Hp} {a:Addr} {u:HO} (I:EnvAt K (Z.ex a) tm O ρ σ H) (hu:H a=some u) (hm:mutO u=true) (fr:∀ b o,H b=some o→b≠a→H' b=some o) (h0:Z.H0 a=none) (hx:a∉Z.Ox):EnvAt K Z tm O ρ σ H':=by
 have ina:a∈av (Z.ex a) O:=List.mem_append_right _ List.mem_cons_self
 have nr:a∉roots O:=fun m=>(I.own a m).2.1 List.mem_cons_self
 have fw:∀ {t:T} {v:V},At K H (av (Z.ex a) O) t v→At K H' (av Z O) t v:=fun q=>(at_frm fr ina hu hm q).fewer sub_av_ex
 have fwL:∀ {t:List T} {v:List V},AtL K H (av (Z.ex a) O) t v→AtL K H' (av Z O) t v:=fun q=>AtL.iff.mpr (Paired.mapP (AtL.iff.mp q) fun _ _ z=>fw z)
 have stay:∀ b v,H b=some v→b≠a→H' b=H b:=fun b v e n=>by rw [e]; exact fr b v e n
 refine ⟨I.lσ,I.lO,fun i e h=>?_,I.nd,fun b h=>?_,I.par,fun b h=>?_,fun b o e n=>?_,fun p hp=>fw (I.tmp p hp)⟩
 · obtain ⟨o,w,h1,h2,h3⟩:=I.sl i e h
   refine ⟨o,w,h1,h2,h3.map (fun _ _ q=>fw q) fun b t eo q=>?_⟩
   have hb:b∈roots O:=mem_roots.mpr (List.mem_of_getElem? (by rw [h1,eo]))
   obtain ⟨_,_,v,ev,_⟩:=I.own b hb
   exact q.map (stay b v ev fun z=>nr (by rw [← z]; exact hb)) fun _ _ z=>fwL z
 · obtain ⟨q1,q2,v,e,m⟩:=I.own b h
   exact ⟨q1,fun z=>q2 (List.mem_cons_of_mem _ z),v,fr b v e fun z=>nr (by rw [← z]; exact h),m⟩
 · have n:b≠a:=fun z=>hx (by rw [← z]; exact h)
   cases e:H b with
   | none=>exact absurd e (I.ox b (List.mem_cons_of_mem _ h))
   | some v=>rw [fr b v e n]; simp
 · have n2:b≠a:=fun z=>by
    have e':Z.H0 b=some o:=e
    rw [z,h0] at e'; cases e'
   exact fr b o (I.keep b o e n) n2
def fCallN (F:FnS) (i:Nat) (g:FP) (G:List T→T→(List T→Rt→Prop)→Prop):FX:=fun ρ Q=>∃ ct,ρ[i]?=some (some (.clo F ct,false))∧plainTs ct=true∧g ρ fun r=>∃ ts,r = .fr (.lst ts)∧plainTs ts=true∧G ct (.lst ts) fun _ r=>Q ρ r
theorem vx_callN (i:Nat) {g:FP} (C:CloOk X.prog X.w X.K X.mg X.base k F true G) (hr:Room k X.A) (ha:VP X Z e g)
  (hN:X.N[i]?=some x:=by rfl) (hv:Vis X.env.scope x:=by first | exact Or.inl rfl | exact Or.inr (Or.inl rfl) | exact Or.inr (Or.inr rfl)) (hd:(x == ("__debug__" : Str))=false:=by decide)
  (hcd:(x == ("__classdict__" : Str))=false:=by decide) (he:starEach [e] X.env=(false,eval e X.env) :: starEach [] X.env:=by rfl) (hpl:(backTo pos (starEach [] X.env)).any (·.1)=false:=by rfl) :
  VX X Z (.Call (.Name x p) [e] [] pos) (fCallN F i g G):=.mk fun tm pins s σ H Q I ⟨ρ,O,q,E,⟨ct,hs,pc,hg⟩,kk⟩=>by
 obtain ⟨f,h2,h3⟩:=clo_slot E hs
 refine wpAny_Call_Name_kw (thn (pe_var hN hv hd hcd pins s σ H (fun v H'=>v = .ref f∧H'=H) I ⟨_,h2,rfl,rfl⟩) fun u s1 ⟨v,H1,I1,r,ev,eH⟩=>?_)
 subst ev eH
 obtain rfl:u=Value.ref f:=r
 refine PySem.W.callWith_F (fn_at (tm:=tm) I1 h3) (thn (pa_cons (ha tm) pa_nil he pos pins s1 σ H1 (fun vs H2=>spOf X.K [false,true] (gClo F G) (.ref f :: vs) H2 Q E0∧At X.K H2 (av Z O) (.clo F ct) (.ref f)) I1 ⟨ρ,O,_,E,hg,fun r ⟨ts,er,pt,hG⟩ v H2 s2 z2=>?_⟩) fun us s2 ⟨vs,H2,I2,r2,q2,q3⟩=>⟨fn_at (tm:=tm) I2 q3,?_⟩) he hpl
 · subst er
   have h3':=h3.same s2
   obtain ⟨a,rfl,EX,hR,h0,hx⟩:=z2
   have hna:a∉av Z O:=fun m=>by
    rcases List.mem_append.mp m with y | y
    · exact (EX.own a y).2.1 List.mem_cons_self
    · exact hx y
   obtain ⟨lv,hlv,_⟩:=id hR
   have hcx:At X.K H2 (av (Z.ex a) O) (.clo F ct) (.ref f):=by
    obtain ⟨o,sv,g1,g2,rfl,v',g3,g4⟩:=EX.sl i _ hs
    rw [h2] at g2
    have:=Option.some.inj (g3.symm.trans (Option.some.inj g2).symm)
    rw [← this]
    exact g4
   have sub:∀ c∈[a] ++ av Z O,c∈av (Z.ex a) O:=fun c hc=>by
    rcases List.mem_append.mp hc with y | y
    · rw [List.mem_singleton.mp y]; exact List.mem_append_right _ List.mem_cons_self
    · exact sub_av_ex c y
   have E2:=E.same s2
   refine ⟨⟨[.clo F ct,.lst ts],[a],av Z O,fun _ r=>q ρ r,by simp,fun b hb=>by rw [List.mem_singleton.mp hb]; exact hna,E2.avH,?_,⟨ct,.lst ts,rfl,pc,by simp only [plainT]; exact pt,hG⟩,fun us r hr v H' fr z=>?_⟩,h3'⟩
   · exact ⟨.clo F ct,[.lst ts],.ref f,[.ref a],rfl,rfl,hcx.fewer sub,a,[],.lst ts,[],[],rfl,rfl,rfl,hR.fewer sub,rfl,rfl,rfl⟩
   · have fr':∀ b o,H2 b=some o→b≠a→H' b=some o:=fun b o e n=>fr b o e (by simpa using n)
     obtain ⟨H3,hH3⟩:∃ H3:Hp,H3=fun b=>if b=a then H' a else H2 b:=⟨_,rfl⟩
     have c1:H3 a=H' a:=by rw [hH3]; exact if_pos rfl
     have c2:∀ b,b≠a→H3 b=H2 b:=fun b n=>by rw [hH3]; exact if_neg n
     have EL:EnvAt X.K Z tm O ρ σ H3:=env_lose EX hlv rfl (fun b o e n=>by rw [c2 b n]; exact e) h0 hx
     have sm:Same H3 H':=fun b o e=>by
      by_cases n:b=a
      · rw [n] at e ⊢; rw [← c1]; exact e
      · rw [c2 b n] at e; exact fr' b o e n
     cases r with
     | vw t=>exact kk ρ _ hr O v H' ⟨EL.same sm,z.1.fewer fun c hc=>List.mem_append_right _ hc⟩
     | fr t =>
       obtain ⟨d,rfl,hd0,hda,hRd,_⟩:=z
       have nda:d≠a:=fun m=>hda (by rw [m]; exact List.mem_cons_self)
       have hd3:H3 d=none:=by rw [c2 d nda]; exact hd0
       obtain ⟨n1,n2,n3⟩:=EL.fresh hd3
       obtain ⟨u,eu,_⟩:=hRd.mut
       refine kk ρ _ hr O _ H' ⟨d,rfl,EL.newAt hd3 sm eu,hRd.fewer fun c hc=>?_,n3,n2⟩
       rcases av_ex_sub c hc with y | y
       · exact List.mem_cons_of_mem _ (List.mem_append_right _ y)
       · rw [y]; exact List.mem_cons_self
 · exact run_clo C hr I2 r2 q2
def fCall1 (g:FX) (G:List T→(Rt→Prop)→Prop):FX:=fun ρ Q=>g ρ fun ρ' r=>G [r.t] fun r=>Q ρ' r
theorem vx_call1 {f:Addr} {fd:FuncData} {ps:List Str} {g:FX} {G:List T→(Rt→Prop)→Prop} (Fn:FnOk X.prog X.w X.K X.mg X.base CX0 k f fd ps (spP X.K 1 G)) (hr:Room k X.A) (hg:Gl X x) (hm:X.mg x=some (.ref f)) (hk:PySem.W.keepIn X.K (.ref f)=true) (hb:Binds X.K fd ps []) (ha:VX X Z e g)
  (hdb:(x == ("__debug__" : Str))=false:=by decide) (he:starEach [e] X.env=(false,eval e X.env) :: starEach [] X.env:=by rfl) (hpl:(backTo pos (starEach [] X.env)).any (·.1)=false:=by rfl) :
  VX X Z (.Call (.Name x p) [e] [] pos) (fCall1 g G):=.mk fun tm=>PE.weak (pe_call Fn hr hg hm hk hb .nil pass0 (pa_cons (ha tm) pa_nil he) hdb he hpl) fun σ H Q ⟨ρ,O,q,I,hf,kk⟩ =>
 ⟨ρ,O,_,I,hf,fun ρ' r hG O' v H' z=>call_ok (X:=X) (n:=1) (G:=G) z.env (AtL.cons z.at AtL.nil) rfl hG fun r2 h2 v2 H2 s2 z2=>kk ρ' r2 h2 O' v2 H2 z2⟩
def fCallQ1 (F:FnS) (i:Nat) (g:FX) (G0:List T→T→(Rt→Prop)→Prop):FX:=fun ρ Q=>(∃ ct,ρ[i]?=some (some (.clo F ct,false)))∧g ρ fun ρ' r=>∃ ct,ρ'[i]?=some (some (.clo F ct,false))∧plainTs ct=true∧plainT r.t=true∧G0 ct r.t fun r=>Q ρ' r
theorem vx_callQ1 (i:Nat) {g:FX} {G0:List T→T→(Rt→Prop)→Prop} (C:CloOk X.prog X.w X.K X.mg X.base k F false fun ct t q=>G0 ct t (q [])) (hr:Room k X.A) (ha:VX X Z e g)
  (hN:X.N[i]?=some x:=by rfl) (hv:Vis X.env.scope x:=by first | exact Or.inl rfl | exact Or.inr (Or.inl rfl) | exact Or.inr (Or.inr rfl)) (hd:(x == ("__debug__" : Str))=false:=by decide)
  (hcd:(x == ("__classdict__" : Str))=false:=by decide) (he:starEach [e] X.env=(false,eval e X.env) :: starEach [] X.env:=by rfl) (hpl:(backTo pos (starEach [] X.env)).any (·.1)=false:=by rfl) :
  VX X Z (.Call (.Name x p) [e] [] pos) (fCallQ1 F i g G0):=.mk fun tm pins s σ H Q I ⟨ρ,O,q,E,⟨⟨ct0,hs⟩,hg⟩,kk⟩=>by
 obtain ⟨f,h2,h3⟩:=clo_slot E hs
 refine wpAny_Call_Name_kw (thn (pe_var hN hv hd hcd pins s σ H (fun v H'=>v = .ref f∧H'=H) I ⟨_,h2,rfl,rfl⟩) fun u s1 ⟨v,H1,I1,r,ev,eH⟩=>?_)
 subst ev eH
 obtain rfl:u=Value.ref f:=r
 refine PySem.W.callWith_F (fn_at (tm:=tm) I1 h3) (thn (pa_cons (ha tm) pa_nil he pos pins s1 σ H1 (fun vs H2=>spP X.K 2 (fun ts q'=>∃ ct t,ts=[.clo F ct,t]∧plainTs ct=true∧plainT t=true∧G0 ct t q') (.ref f :: vs) H2 Q E0∧∃ A ct,At X.K H2 A (.clo F ct) (.ref f)) I1 ⟨ρ,O,_,E,hg,fun ρ' r ⟨ct,hs',pc,pt,hG⟩ O' v H2 z2=>?_⟩) fun us s2 ⟨vs,H2,I2,r2,q2,A,ct,q3⟩=>⟨fn_at (tm:=tm) I2 q3,?_⟩) he hpl
 · obtain ⟨f',g2,g3⟩:=clo_slot z2.env hs'
   rw [h2] at g2
   cases g2
   have:=call_ok (X:=X) (n:=2) (G:=fun ts q'=>∃ ct t,ts=[.clo F ct,t]∧plainTs ct=true∧plainT t=true∧G0 ct t q') z2.env (AtL.cons g3 (AtL.cons z2.at AtL.nil)) rfl ⟨ct,r.t,rfl,pc,pt,hG⟩ fun r3 h3 v3 H3 s3 z3=>kk ρ' r3 h3 O' v3 H3 z3
   exact ⟨this,_,ct,g3⟩
 · exact run_clo C hr I2 r2 q2
end
end CLO
namespace EX
open PySem PySem.Spec PySem.Calls PyProof.Rows L2
def Flt (h:Heap) (e C:Addr) (dd T:Option Addr) (fl:Value):Prop :=
 ∃ oe vs,h.get? e=some oe∧oe.cls = .ref C∧oe.dict=dd∧oe.data = .fields vs∧1 < vs.size ∧
  match T with
  | none=>vs[1]?=some .none
  | some a=>vs[1]?=some (.ref a)∧a≠e∧∃ oT ts,h.get? a=some oT∧oT.data = .fields ts∧ts[3]?=some fl
structure Kp (fs:List Addr) (e:Addr) (T:Option Addr) (h h':Heap):Prop where
 keep:∀ b o,h.get? b=some o→b≠e→T≠some b→b∉fs→h'.get? b=some o
 slot:∀ b o,h.get? b=some o→b∈fs→b≠e→T≠some b→∃ sl,h'.get? b=some { o with slots:=sl }
theorem Kp.any {fs:List Addr} {e:Addr} {T:Option Addr} {h h':Heap} (k:Kp fs e T h h') {b:Addr} {o:Obj} (q:h.get? b=some o) (h1:b≠e) (h2:T≠some b):∃ sl,h'.get? b=some { o with slots:=sl }:=by
 by_cases z:b∈fs
 · exact k.slot b o q z h1 h2
 · exact ⟨o.slots,k.keep b o q h1 h2 z⟩
theorem Kp.trans {fs:List Addr} {e:Addr} {T T':Option Addr} {h h1 h2:Heap} (a:Kp fs e T h h1) (b:Kp fs e T' h1 h2) (hT:∀ c,T'=some c→h.get? c=none∨T=some c):Kp fs e T h h2 where
 keep:=fun c o q n1 n2 n3=>b.keep c o (a.keep c o q n1 n2 n3) n1 (fun z=>by rcases hT c z with y | y; rw [q] at y; cases y; exact n2 y) n3
 slot:=fun c o q n1 n2 n3=>by
  obtain ⟨sl,q1⟩:=a.slot c o q n1 n2 n3
  obtain ⟨sl2,q2⟩:=b.slot c _ q1 n1 n2 (fun z=>by rcases hT c z with y | y; rw [q] at y; cases y; exact n3 y)
  exact ⟨sl2,q2⟩
theorem dict_mf (o:Obj) (f:Array Value→Array Value):(o.mapFields f).dict=o.dict:=by
 obtain ⟨c,d,da,sl⟩:=o
 cases da <;> rfl
section
variable {M:Model} {A:Around} {E:Value→Shared→Prop} {s:Shared} {e C L:Addr} {dd T:Option Addr} {fl:Value} {base:Heap} {env:Env} {outer:List Env}
theorem Flt.nofr {h:Heap} {l:List Env} (F:Flt h e C dd T fl) (hl:h.FunFrames base l):e∉frs l∧∀ a,T=some a→a∉frs l:=by
 obtain ⟨oe,vs,he,hc,hd,hda,hsz,hT⟩:=F
 refine ⟨fun z=>?_,fun a ea z=>?_⟩
 · obtain ⟨_,o,ho,hn⟩:=hl.mem z
   rw [he] at ho
   cases ho
   exact hn vs hda
 · subst ea
   obtain ⟨_,_,oT,ts,hoT,hdT,_⟩:=hT
   obtain ⟨_,o,ho,hn⟩:=hl.mem z
   rw [hoT] at ho
   cases ho
   exact hn ts hdT
theorem entry_ok {head:Value} {hn:Bool} {oe:Obj} {vs:Array Value} {Q:Unit→Shared→Prop} (hfr:A.frames=some (env :: outer)) (hl:s.heap.FunFrames base (env :: outer)) (hf:env.frame=some L)
  (he:s.heap.get? e=some oe) (hc:oe.cls = .ref C) (hd:oe.dict=dd) (hda:oe.data = .fields vs) (hsz:1 < vs.size)
  (h:∀ h' T',Flt h' e C dd (some T') (rawInt L)→s.heap.get? T'=none→Kp (frs (env :: outer)) e none s.heap h'→Q () { s with heap:=h' }) :
  wpAny M A (do let a ← frameOf env; let pl ← entryPlaceOf L hn; let b ← EntryCells.newEntry head a .none (rawInt L) .none pl; setField (.ref e) 1 b) Q E s:=by
 have ne:e∉frs (env :: outer):=fun z=>by
  obtain ⟨_,o,ho,q⟩:=hl.mem z
  rw [he] at ho
  cases ho
  exact q vs hda
 refine wpAny_bind (wpAny_frameOf_fun hfr hl hf fun h1 so=>?_)
 refine wpAny_bind (wpAny_entryPlaceOf fun pl hpl=>?_)
 unfold EntryCells.newEntry newFields
 refine wpAny_bind (wpAny_newObj_type ?_ (hpl.sizeOk5 _ _ _ _ _))
 have e1:h1.get? e=some oe:=(so.2.1 e ne).trans he
 generalize hx:([head,Value.ref L,.none,rawInt L,.none] ++ (if pl.isEmpty then List.replicate 6 Value.none else pl))=xs
 have x3:xs.toArray[3]?=some (rawInt L):=by rw [← hx]; simp
 have e2:(h1.push ⟨.type "traceback",none,.fields xs.toArray,#[]⟩).get? e=some oe:=Heap.get?_push_of_some _ e1
 refine wpAny_setField e2 hda hsz ?_
 have nT:h1.objs.size≠e:=Nat.ne_of_gt (Heap.lt_size e1)
 have d3:=Obj.data_mapFields hda (·.setIfInBounds 1 (Value.ref h1.objs.size))
 refine h _ h1.objs.size ⟨_,_,Heap.get?_update_self _ e2 (Obj.isFreed_of_fields d3),(Obj.cls_mapFields _ _).trans hc,?_,d3,by simp [hsz],by simp [hsz],nT,⟨.type "traceback",none,.fields xs.toArray,#[]⟩,xs.toArray,?_,rfl,x3⟩ (Heap.get?_none_of_le (by rw [so.1]; exact Nat.le_refl _)) ⟨fun b o q n1 _ n3=>?_,fun b o q n1 n2 _=>?_⟩
 · rw [← hd]; exact dict_mf _ _
 · rw [Heap.get?_update_other _ _ (Ne.symm nT)]; exact Heap.get?_push_size h1 rfl
 · rw [Heap.get?_update_other _ _ (Ne.symm n1)]; exact Heap.get?_push_of_some _ ((so.2.1 b n3).trans q)
 · obtain ⟨sl,q2⟩:=so.2.2 b o q
   exact ⟨sl,by rw [Heap.get?_update_other _ _ (Ne.symm n2)]; exact Heap.get?_push_of_some _ q2⟩
theorem note_ok {Q:Unit→Shared→Prop} (hfr:A.frames=some (env :: outer)) (hl:s.heap.FunFrames base (env :: outer)) (hf:env.frame=some L) (F:Flt s.heap e C dd T .none)
  (h:∀ h' T',Flt h' e C dd (some T') (rawInt L)→s.heap.get? T'=none→Kp (frs (env :: outer)) e T s.heap h'→Q () { s with heap:=h' }):wpAny M A (noteFrame (.ref e) env) Q E s:=by
 have nf:=F.nofr hl
 obtain ⟨oe,vs,he,hc,hd,hda,hsz,hT⟩:=F
 unfold noteFrame
 simp only [hf]
 cases T with
 | none =>
   refine wpAny_bind (wpAny_field he hda hT ?_)
   rw [if_neg (by decide)]
   exact entry_ok hfr hl hf he hc hd hda hsz h
 | some a =>
   obtain ⟨h1,ne,oT,ts,hoT,hdT,h3⟩:=hT
   refine wpAny_bind (wpAny_field he hda h1 ?_)
   rw [if_pos (by simp)]
   refine wpAny_bind (wpAny_field hoT hdT h3 ?_)
   rw [if_neg (by simp [rawInt])]
   refine wpAny_bind (wpAny_setField hoT hdT (Array.getElem?_eq_some_iff.mp h3).1 ?_)
   have oth:∀ b,b≠a→(s.heap.update a (Obj.mapFields (·.setIfInBounds 3 Value.none))).get? b=s.heap.get? b:=fun b hb=>Heap.get?_update_other _ _ (Ne.symm hb)
   have hl2:=hl.of_keeps (h':=s.heap.update a (Obj.mapFields (·.setIfInBounds 3 Value.none))) fun b o q nn=>⟨o,(oth b fun z=>by subst z; rw [hoT] at q; cases q; exact nn ts hdT).trans q,rfl⟩
   refine entry_ok (s:={ s with heap:=s.heap.update a (Obj.mapFields (·.setIfInBounds 3 Value.none)) }) hfr hl2 hf ((oth e (Ne.symm ne)).trans he) hc hd hda hsz fun h' T' f n k=>h h' T' f ?_ ⟨fun b o q n1 n2 n3=>?_,fun b o q n1 n2 n3=>?_⟩
   · cases q:s.heap.get? T' with
     | none=>rfl
     | some o =>
       by_cases z:T'=a
       · subst z
         have:=Heap.get?_update_self (Obj.mapFields (·.setIfInBounds 3 Value.none)) hoT (Obj.isFreed_of_fields (Obj.data_mapFields hdT _))
         rw [this] at n
         cases n
       · rw [oth T' z,q] at n; cases n
   · have nb:b≠a:=fun z=>n2 (by rw [z])
     exact k.keep b o ((oth b nb).trans q) n1 (fun z=>by cases z) n3
   · have nb:b≠a:=fun z=>n3 (by rw [z])
     exact k.slot b o ((oth b nb).trans q) n1 n2 (fun z=>by cases z)
theorem land_ok {Q:Unit→Shared→Prop} {a:Addr} (F:Flt s.heap e C dd (some a) fl) (h:∀ h',Flt h' e C dd (some a) .none→Kp [] e (some a) s.heap h'→Q () { s with heap:=h' }):wpAny M A (setFlight (.ref e) none) Q E s:=by
 obtain ⟨oe,vs,he,hc,hd,hda,hsz,h1,ne,oT,ts,hoT,hdT,h3⟩:=F
 have z3:=(Array.getElem?_eq_some_iff.mp h3).1
 unfold setFlight
 refine wpAny_bind (wpAny_field he hda h1 ?_)
 rw [if_pos (by simp)]
 refine wpAny_setField hoT hdT z3 ?_
 have oth:∀ (f:Obj→Obj) b,b≠a→(s.heap.update a f).get? b=s.heap.get? b:=fun f b hb=>Heap.get?_update_other _ _ (Ne.symm hb)
 refine h _ ⟨oe,vs,(oth _ e (Ne.symm ne)).trans he,hc,hd,hda,hsz,h1,ne,_,_,Heap.get?_update_self _ hoT (Obj.isFreed_of_fields (Obj.data_mapFields hdT _)),Obj.data_mapFields hdT _,by simp [z3]⟩
  ⟨fun b o q n1 n2 _=>(oth _ b fun z=>n2 (by rw [z])).trans q,fun b o q n1 _ _=>absurd n1 (by simp)⟩
theorem leave_ok {Q:Unit→Shared→Prop} (hfr:A.frames=some (env :: outer)) (hl:s.heap.FunFrames base (env :: outer)) (hf:env.frame=some L) (F:Flt s.heap e C dd T .none)
  (h:∀ h' T',Flt h' e C dd (some T') .none→s.heap.get? T'=none→Kp (frs (env :: outer)) e T s.heap h'→Q () { s with heap:=h' }):wpAny M A (leaving env (.ref e)) Q E s:=by
 unfold leaving
 refine wpAny_bind (note_ok hfr hl hf F fun h1 T' f n k=>?_)
 refine land_ok f fun h2 f2 k2=>h h2 T' f2 n (k.trans ⟨fun b o q n1 n2 _=>k2.keep b o q n1 n2 (by simp),fun b o q _ n2 n3=>⟨o.slots,k2.keep b o q n2 n3 (by simp)⟩⟩ fun c z=>.inl (by cases z; exact n))
end
end EX
namespace EX
open PySem PySem.Spec PySem.Calls PyProof.Rows L2
open PySem.W (findIn typeIn clsIn subIn looks_findIn looks_typeIn looks_subIn looks_clsIn Looks InstAt lookIn findObj)
abbrev clO (nm q:Str) (C N:Addr) (bs bm:List Value) (sn:List Str) (sub:List Value) (ab:Bool) (col:Option Bool) (dd:Option Addr) (k0 k1 k2 k3 k5:Option Value):Obj:=excClassObj nm q C N bs bm true sn sub ab col dd k0 k1 k2 k3 k5 "ValueError.__new__"
structure XC (K:PySem.W.Frag) (C:Addr) (tl:List Addr):Prop where
 obj:∃ nm q N bs sn sub ab col dd k0 k1 k2 k3 k5,K.lookup C=some (clO nm q C N bs (tl.map .ref ++ bmV) sn sub ab col dd k0 k1 k2 k3 k5)
 tail:∀ a∈tl,∃ c dd cd sl o es ep,K.lookup a=some ⟨c,dd,.cls cd,sl⟩∧K.lookup cd.ns=some o∧o.data = .dict es ep∧StrKeys es∧nsFind es "__init__" = none
theorem own_tail {K:PySem.W.Frag} {h:Heap} (X:K.In h):∀ {tl:List Addr},(∀ a∈tl,∃ c dd cd sl o es ep,K.lookup a=some ⟨c,dd,.cls cd,sl⟩∧K.lookup cd.ns=some o∧o.data = .dict es ep∧StrKeys es∧nsFind es "__init__" = none)→OwnTail h bmV (tl.map .ref ++ bmV)
 | [],_=>.base
 | a :: tl,q=>by
   obtain ⟨c,dd,cd,sl,o,es,ep,h1,h2,h3,h4,h5⟩:=q a List.mem_cons_self
   exact .own (X _ _ h1) ⟨o,es,ep,X _ _ h2,h3,h4,fun _=>rfl⟩ h5 (own_tail X fun b hb=>q b (List.mem_cons_of_mem _ hb))
section
variable {prog:Program} {w:World} {A:Around} {E:Value→Shared→Prop} {h:Heap} {g:Array GenState} {d:Drawn} {t:Nat} {os:OsState} {K:PySem.W.Frag} {C fI:Addr} {tl:List Addr} {rest:List Value}
end
end EX
namespace EX
open PySem PySem.Spec PySem.Calls PyProof.Rows L2 Builtin Builtin.ObjectAttr
open PySem.W (findIn typeIn clsIn subIn mroIn specialIn takesIn looks_findIn looks_typeIn looks_subIn looks_clsIn looks_mroIn looks_find Looks InstAt lookIn findObj)
structure XF (K:PySem.W.Frag) (C:Addr):Prop where
 ga:findIn K (.ref C) "__getattribute__" = some (some (.builtin "BaseException.__getattribute__"))
 hk:findIn K (.ref C) "__getattr__" = some none
 sa:findIn K (.ref C) "__setattr__" = some (some (.builtin "object.__setattr__"))
 pl:findIn K (.ref C) "place" = some none
 cl:findIn K (.ref C) "__class__" = some (some (.builtin "object.__class__"))
 sub:subIn K (.ref C) (.type "BaseException")=some true
 ob:mroIn K C (.type "object")=some true
 cg:specialIn K (.builtin "object.__class__") "__get__" = some (some (.builtin "getset_descriptor.__get__"))
 ct:takesIn K (.builtin "object.__class__")=some true
section
variable {prog:Program} {w:World} {A:Around} {E:Value→Shared→Prop} {s:Shared} {K:PySem.W.Frag} {C e:Addr} {oe:Obj} {od:Option Obj} {name:Str} {tl:List Addr}
theorem getby {tk:Tok} {fill expr:Bool} {Q:Value→Shared→Prop} (X:K.In s.heap) (f:XF K C) (I:InstAt s.heap e oe C od)
  (h:wpAny (model prog w) A.in1 (Builtin.«object.__getattribute__» ⟨[.ref e,.str name tk],[]⟩) (fun fin s'=>match fin with | .done (.ret v)=>wpAny (model prog w) A (handedOut v) Q E s' | _=>False) (fun _ _=>False) s) :
  wpAny (model prog w) A (getAttrBy (.ref e) (.str name tk) fill expr) Q E s:=by
 have ex:=F.excAttr_ValueError.ga
 unfold getAttrBy
 refine wpAny_holding (wpAny_bind (I.type.here (wpAny_bind ((looks_findIn X f.ga).here ?_))))
 dsimp only
 have n1:(Value.builtin "BaseException.__getattribute__" == Value.builtin "object.__getattribute__")=false:=by decide +kernel
 rw [show (onTheHeap (Value.ref C) && Value.builtin "BaseException.__getattribute__" == Value.builtin "object.__getattribute__")=false from by rw [n1,Bool.and_false],if_neg (by decide)]
 unfold getAttrByItsOwn
 have hb:Looks (model prog w) s.heap (hookBefore (.ref C)) none:=PySem.W.looks_hook X (by show findIn K (.ref C) "__getattr__" = some none; exact f.hk)
 refine wpAny_bind (hb.here (wpAny_bind (wpAny_attempt (wpAny_holding ?_))))
 unfold callGetattribute
 rw [show (expr && onTheHeap (Value.builtin "BaseException.__getattribute__"))=false from Bool.and_false _,if_neg (by decide)]
 unfold boundAndCalled
 rw [ex.bind]
 refine wpAny_bind (wpAny_pure ?_)
 show wpAny _ _ (call (.builtin "BaseException.__getattribute__") [.ref e,.str name tk]) _ _ _
 refine wpAny_call (codeAny_call_builtin ex.plain F.entry_bexc_ga ?_)
 refine @PySem.W.check_slot (model prog w) _ _ s "BaseException.__getattribute__" "BaseException" "__getattribute__" (.ref e) [.str name tk] [] _ (by decide +kernel) (by decide +kernel) (I.type.andThen (looks_subIn X f.sub)) (F.args_bexc_ga _ _) ?_
 refine wpAny_mono h (fun fin s' z=>?_) fun _ _ z=>z.elim
 rcases fin with (_ | _ | _ | _) | _ <;> first | exact z | exact z.elim
theorem find_run {tk:Tok} {r:Found} {Q:PySem.Fin→Shared→Prop} (L:Looks (model prog w) s.heap (find (.ref e) (.ref C) name) r) (I:InstAt s.heap e oe C od)
  (h:wpAny (model prog w) A (match r with | .value v=>ret v | .bind g a=>bindTo g a (.ref e) (.ref C) | .missing=>pure (.done (.ret .none))) Q E s) (hr:r≠.missing) :
  wpAny (model prog w) A (Builtin.«object.__getattribute__» ⟨[.ref e,.str name tk],[]⟩) Q E s:=by
 refine wpAny_bind (wpAny_pure (wpAny_bind (wpAny_pure (wpAny_bind (I.type.here (wpAny_bind (L.here ?_)))))))
 cases r with
 | value v=>exact h
 | bind g a=>exact h
 | missing=>exact absurd rfl hr
theorem get_cls {Q:Option Value→Shared→Prop} (X:K.In s.heap) (f:XF K C) (hcl:(clsIn K C).isSome=true) (I:InstAt s.heap e oe C od) (h:Q (some (.ref C)) { s with toks:=s.toks+1 }):wpAny (model prog w) A (getAttr? (.ref e) "__class__") Q E s:=by
 have hf:findObj K C od "__class__" = some (.bind (.builtin "getset_descriptor.__get__") (.builtin "object.__class__")):=by
  obtain ⟨cd,hc⟩:=Option.isSome_iff_exists.mp hcl
  unfold findObj
  rw [hc,Option.bind_some,f.cl,Option.bind_some]
  simp only [f.cg,Option.bind_some,f.ct]
 unfold getAttr? getAttrBy?
 refine wpAny_bind (wpAny_mkText (wpAny_bind (wpAny_attempt ?_)))
 refine getby (s:={ s with toks:=s.toks+1 }) X f I ?_
 refine find_run (s:={ s with toks:=s.toks+1 }) (looks_find X I hf) I ?_ (by intro z; cases z)
 show wpAny _ _ (holding [_] (call _ [_,.ref e,.ref C]) >>= ret) _ _ _
 refine wpAny_bind (wpAny_holding (wpAny_call (PySem.W.class_get (s:={ s with toks:=s.toks+1 }) X I f.ob ?_)))
 refine wpAny_pure ?_
 show wpAny _ _ (handedOut (.ref C)) _ _ _
 exact wpAny_pure (wpAny_pure h)
end
end EX
namespace EX
open PySem PySem.Spec PySem.Calls PyProof.Rows L2 Builtin Builtin.ObjectAttr
open PySem.W (findIn typeIn clsIn subIn mroIn specialIn takesIn looks_findIn looks_typeIn looks_subIn looks_clsIn looks_mroIn looks_find Looks InstAt lookIn findObj kitOne KitX)
section
variable {K:PySem.W.Frag} {C e:Addr} {oe:Obj} {tl:List Addr}
theorem XC.cls (xc:XC K C tl):∃ cd,clsIn K C=some cd∧cd.hasDict=true∧cd.mro = .ref C :: (tl.map .ref ++ bmV):=by
 obtain ⟨nm,q,N,bs,sn,sub,ab,col,dd,k0,k1,k2,k3,k5,oK⟩:=xc.obj
 exact ⟨_,by unfold clsIn; rw [oK],rfl,rfl⟩
theorem kitx_exc (xc:XC K C tl) (f:XF K C):KitX K (.ref e) (.ref C) (fun h=>∃ oe od,InstAt h e oe C od) where
 ty:=fun _ _ _ ⟨_,_,I⟩=>I.type
 it:=fun _ h X _=>by
  obtain ⟨nm,q,N,bs,sn,sub,ab,col,dd,k0,k1,k2,k3,k5,oK⟩:=xc.obj
  intro A' Q' E' s' k q
  unfold isType loadHead
  exact wpAny_bind (wpAny_loadPart (k _ _ (X _ _ oK)) (wpAny_pure q))
 ne:=fun h tp dd' its n sl X htp=>by
  obtain ⟨nm,q,N,bs,sn,sub,ab,col,dd,k0,k1,k2,k3,k5,oK⟩:=xc.obj
  refine Bool.eq_false_iff.mpr fun z=>?_
  have z:C=tp:=Value.ref.inj (beq_iff_eq.mp z)
  subst z
  have z2:=Option.some.inj ((X _ _ oK).symm.trans htp)
  exact absurd (Value.type.inj (congrArg Obj.cls z2)) (by decide)
 ca:=fun X ⟨_,_,I⟩ k=>get_cls X f (by obtain ⟨cd,z,_⟩:=xc.cls; rw [z]; rfl) I k
variable {prog:Program} {w:World} {A:Around} {E:Value→Shared→Prop} {s:Shared} {od:Option Obj}
theorem isi_exc {c:Value} {b:Bool} {Q:Value→Shared→Prop} (X:K.In s.heap) (xc:XC K C tl) (f:XF K C) (I:InstAt s.heap e oe C od) (hk:kitOne K (.ref C) c=some b) (h:∀ tk,Q (.bool b) { s with toks:=tk }) :
  wpAny (model prog w) A (call (.builtin "isinstance") [.ref e,c]) Q E s :=
 PySem.W.kia_one (kitx_exc xc f) X ⟨oe,od,I⟩ hk (by intro z; cases z) h
end
end EX
namespace EX
open PySem PySem.Spec PySem.Calls PyProof.Rows L2 Builtin Builtin.ObjectAttr
open PySem.W (findIn typeIn clsIn subIn mroIn specialIn takesIn looks_findIn looks_typeIn looks_subIn looks_clsIn looks_mroIn looks_find Looks InstAt lookIn findObj kitOne KitX)
section
variable {prog:Program} {w:World} {A:Around} {E:Value→Shared→Prop} {s:Shared} {K:PySem.W.Frag} {C e:Addr} {oe:Obj} {tl:List Addr}
end
end EX
namespace EX
open PySem PySem.Spec PySem.Calls PyProof.Rows L2
open PySem.W (findIn typeIn clsIn subIn mroIn specialIn takesIn looks_findIn Looks InstAt)
section
variable {X:Cx}
end
end EX
namespace EX
open PySem PySem.Spec PySem.Calls PyProof.Rows L2
open PySem.W (findIn typeIn clsIn subIn mroIn specialIn takesIn looks_findIn Looks InstAt)
abbrev exO (C:Addr) (dd:Option Addr) (t:Addr):Obj:=⟨.ref C,dd,.fields #[.ref t,.none,.none,.none,.bool false,.none],#[]⟩
def exP (C e:Addr) (dd:Option Addr):Heap→Prop:=fun h=>∃ t,h.get? e=some (exO C dd t)
theorem ex_ok {P:Program} {w:World} {H:Hp} {h:Heap} {C e t:Addr} {dd:Option Addr} (q:h.get? e=some (exO C dd t)):ObjOk P w H h e (.ext (exP C e dd)) :=
 ⟨⟨t,q⟩,⟨_,q⟩,fun _ _ ⟨t,a⟩ k=>⟨t,k _ a⟩⟩
theorem un_track {fs ex:List Addr} {H H1:Hp} {h h':Heap} {a:Addr} {o:HO} (u:Un fs ex H H1 h h') (n:H1 a=none) (f:h.get? a=none):Un fs ex H (upd H1 a o) h h' where
 keep:=u.keep
 slot:=u.slot
 free:=fun b ob q z x=>by rw [upd_ne (fun e=>by subst e; rw [f] at q; cases q)]; exact u.free b ob q z x
 there:=u.there
 tups:=fun b xs q=>by have:=u.tups b xs q; rw [upd_ne (ne_of_none this n)]; exact this
 frzs:=fun b ob xs q=>by have:=u.frzs b ob xs q; rw [upd_ne (ne_of_none this n)]; exact this
 tbls:=fun b ps q=>by obtain ⟨m,this⟩:=u.tbls b ps q; exact ⟨m,by rw [upd_ne (ne_of_none this n)]; exact this⟩
theorem hok_track {P:Program} {w:World} {H:Hp} {h:Heap} {a:Addr} {o:HO} (ok:HOk P w H h) (n:H a=none) (new:ObjOk P w (upd H a o) h a o):HOk P w (upd H a o) h:=fun b u q=>by
 by_cases e:b=a
 · subst e; rw [upd_same] at q; cases q; exact new
 · rw [upd_ne e] at q
   exact (ok b u q).stay (fun _ _ _ z=>z) (fun c z=>by rw [upd_ne (ne_of_none z n)]; exact z) fun c xs z=>by rw [upd_ne (ne_of_none z n)]; exact z
section
variable {X:Cx} {C S:Addr} {tl:List Addr}
end
end EX
namespace EX
open PySem PySem.Spec PySem.Calls PyProof.Rows L2
open PySem.W (findIn typeIn Looks InstAt)
def CX1 (P:Program) (w:World):CXT:=fun outer H s E v s'=>∃ e C dd T H',v = .ref e∧s'.os=s.os∧AllBare s'.gens∧Un (frs outer) [] H H' s.heap s'.heap∧HOk P w H' s'.heap∧Flt s'.heap e C dd (some T) .none ∧
 s.heap.get? e=none∧s.heap.get? T=none∧H' e=none∧H' T=none∧E (.ref C) dd H'
def del (H:Hp) (e:Addr):Hp:=fun b=>if b=e then none else H b
theorem del_same {H:Hp} {e:Addr}:del H e e=none:=by unfold del; rw [if_pos rfl]
theorem del_ne {H:Hp} {e b:Addr} (h:b≠e):del H e b=H b:=by unfold del; rw [if_neg h]
theorem un_del {fs ex:List Addr} {H:Hp} {h:Heap} {e:Addr} {φ:Heap→Prop} (q:H e=some (.ext φ)):Un fs ex H (del H e) h h where
 keep:=fun _ _ z _ _ _=>z
 slot:=fun b o z _ _ _=>⟨o.slots,z⟩
 free:=fun b o _ z _=>by by_cases y:b=e; rw [y]; exact del_same; rw [del_ne y]; exact z
 there:=fun b o z _=>⟨o,z⟩
 tups:=fun b xs z=>by rw [del_ne (fun y=>by rw [y,q] at z; cases z)]; exact z
 frzs:=fun b o u z=>by rw [del_ne (fun y=>by rw [y,q] at z; cases z)]; exact z
 tbls:=fun b ps z=>⟨#[],by rw [del_ne (fun y=>by rw [y,q] at z; cases z),z]; simp⟩
theorem hok_del {P:Program} {w:World} {H:Hp} {h:Heap} {e:Addr} {φ:Heap→Prop} (ok:HOk P w H h) (q:H e=some (.ext φ)):HOk P w (del H e) h:=fun b u z=>by
 have n:b≠e:=fun y=>by rw [y,del_same] at z; cases z
 rw [del_ne n] at z
 exact (ok b u z).stay (fun _ _ _ y=>y) (fun c y=>by rw [del_ne (fun x=>by rw [x,q] at y; cases y)]; exact y) fun c xs y=>by rw [del_ne (fun x=>by rw [x,q] at y; cases y)]; exact y
theorem flt_new {h:Heap} {e C:Addr} {dd:Option Addr} (q:exP C e dd h):Flt h e C dd none .none:=let ⟨t,a⟩:=q; ⟨_,_,a,rfl,rfl,rfl,by simp,rfl⟩
theorem obj_here {P:Program} {w:World} {H:Hp} {h:Heap} {a:Addr} {o:HO} (x:ObjOk P w H h a o):∃ u,h.get? a=some u:=by
 cases o with
 | lst xs=>obtain ⟨_,_,_,_,e⟩:=x; exact ⟨_,e⟩
 | tup xs=>obtain ⟨_,_,_,_,e,_⟩:=x; exact ⟨_,e⟩
 | dK kvs=>obtain ⟨_,_,_,_,o,_,_,e,_⟩:=x; exact ⟨_,e⟩
 | dT kvs=>obtain ⟨_,_,_,_,o,_,_,e,_⟩:=x; exact ⟨_,e⟩
 | set S n=>obtain ⟨o,_,_,_,e,_⟩:=x; exact ⟨_,e⟩
 | ins C dx fs=>obtain ⟨_,_,_,e,_⟩:=x; exact ⟨_,e⟩
 | own y=>exact x
 | xd fs=>obtain ⟨_,⟨_,_,_,e,_⟩,_⟩:=x; exact ⟨_,e⟩
 | rng lo hi=>obtain ⟨_,_,_,e⟩:=x; exact ⟨_,e⟩
 | frz ob u=>exact ⟨_,x.1⟩
 | tbl ps=>exact ⟨_,show h.get? a=some _ from x⟩
 | met f y=>exact ⟨_,show h.get? a=some _ from x⟩
 | ext φ=>exact x.2.1
theorem xe_out {P:Program} {w:World} {K:PySem.W.Frag} {mg:Str→Option Value} {base:Heap} {N:List Str} {qual:Str} {scope:Scope} {f:Addr} {cd:Value} {A:Around} {outer:List Env} {s s':Shared} {H H':Hp} {E:XK} {pins:List (Addr×Obj)} {σ:L2.St}
  {e C:Addr} {dd T:Option Addr} (I:Inv (cxOf (CX1 P w) P w K mg base N qual scope f cd A outer s H E) pins σ H' s') (F:Flt s'.heap e C dd T .none) (he:H' e=none) (hT:∀ a,T=some a→H' a=none)
  (ne:s.heap.get? e=none) (nT:∀ a,T=some a→s.heap.get? a=none) (hE:E (.ref C) dd H'):(cxOf (CX1 P w) P w K mg base N qual scope f cd A outer s H E).xe (.ref e) s':=by
 have st:=I.stack
 have fr:=I.stkFree
 have hfr:=I.ok.frames
 have nf:=F.nofr st
 refine leave_ok hfr st rfl F fun h2 T2 F2 n2 k=>?_
 have lt:∀ b o,s.heap.get? b=some o→b≠s.heap.objs.size:=fun b o q=>Nat.ne_of_lt (Heap.lt_size q)
 have cn:∀ b o,s.heap.get? b=some o→b≠e∧T≠some b:=fun b o q=>⟨fun z=>by (rw [z,ne] at q; cases q),fun z=>by (rw [nT b z] at q; cases q)⟩
 have inS:∀ b,b∈frs (envOfC qual scope s.heap.objs.size f cd :: outer)→b=s.heap.objs.size∨b∈frs outer:=fun b hb=>by
  rcases List.mem_cons.mp (show b∈s.heap.objs.size :: frs outer from hb) with z | z
  · exact .inl z
  · exact .inr z
 have u:Un (frs outer) [] H H' s.heap s'.heap:=I.base
 have hk:∀ b u,H' b=some u→b≠e∧T≠some b∧b∉frs (envOfC qual scope s.heap.objs.size f cd :: outer):=fun b u z=>⟨fun y=>by (rw [y,he] at z; cases z),fun y=>by (rw [hT b y] at z; cases z),fun y=>by (rw [fr b y] at z; cases z)⟩
 refine ⟨e,C,dd,T2,H',rfl,I.os,I.bare,⟨fun b o q n nf' _=>?_,fun b o q n nf' _=>?_,fun b o q n _=>u.free b o q n (by simp),fun b o q _=>?_,u.tups,u.frzs,u.tbls⟩,fun b u z=>?_,F2,ne,?_,he,?_,hE⟩
 · exact k.keep b o (u.keep b o q n nf' (by simp)) (cn b o q).1 (cn b o q).2 fun z=>(inS b z).elim (lt b o q) nf'
 · obtain ⟨sl,q1⟩:=u.slot b o q n nf' (by simp)
   obtain ⟨sl2,q2⟩:=k.any q1 (cn b o q).1 (cn b o q).2
   exact ⟨sl2,q2⟩
 · obtain ⟨o1,q1⟩:=u.there b o q (by simp)
   obtain ⟨sl,q2⟩:=k.any q1 (cn b o q).1 (cn b o q).2
   exact ⟨_,q2⟩
 · refine (I.hok b u z).stay (fun c v hc q=>?_) (fun _ y=>y) fun _ _ y=>y
   have hh:∃ u,H' c=some u:=by
    rcases hc with y | y
    · exact ⟨u,by rw [y]; exact z⟩
    · exact ⟨_,y⟩
   obtain ⟨u',y⟩:=hh
   obtain ⟨n1,n2',n3⟩:=hk c u' y
   exact k.keep c v q n1 n2' n3
 · cases q:s.heap.get? T2 with
   | none=>rfl
   | some o =>
     obtain ⟨o1,q1⟩:=u.there T2 o q (by simp)
     rw [n2] at q1; cases q1
 · cases q:H' T2 with
   | none=>rfl
   | some o =>
     obtain ⟨o1,q1⟩:=obj_here (I.hok T2 o q)
     rw [n2] at q1; cases q1
end EX
namespace EX
open PySem PySem.Spec PySem.Calls PyProof.Rows L2
open PySem.W (findIn typeIn Looks InstAt)
def spI (C:Addr):Sp:=fun vs H Q _=>∃ e i,vs=[.ref e,.int i]∧0≤i∧i≤100∧H e=some (.ext (exP C e none)) ∧
 ∀ dx,H dx=none→dx≠e→Q .non (upd (upd H e (.ext (exP C e (some dx)))) dx (.xd [("place",.int i)]))
structure XP (P:Program) (w:World) (K:PySem.W.Frag) (mg:Str→Option Value) (base:Heap) (x:Str) (C:Addr) (k:Nat):Prop where
 m:mg x=some (.ref C)
 kp:PySem.W.keepIn K (.ref C)=true
 xc:∃ tl,XC K C tl
 init:∃ fI fd,findIn K (.ref C) "__init__" = some (some (.ref fI))∧typeIn K (.ref fI)=some (.type "function")∧Binds K fd ["self","place"] []∧FnOk P w K mg base CX0 k fI fd ["self","place"] (spI C)
section
variable {X:Cx} {C:Addr} {k:Nat} {x:Str}
def tRaise (X:Cx) (te:TE):TS:=fun _ σ H=>te σ H fun v H1=>∃ e C dd tl,v = .ref e∧XC X.K C tl∧H1 e=some (.ext (exP C e dd)) ∧
 ∀ pins s,Inv X pins σ H1 s→Inv X pins σ (del H1 e) s→Flt s.heap e C dd none .none→X.xe (.ref e) s
theorem ps_raise {e:Expr} {pos:Pos} {te:TE} (hc:X.calm=true) (he:PE X e te):PS X (.Raise (some e) none pos) (tRaise X te):=by
 intro pins s σ H D I h
 rw [arm_exec_Raise]
 refine wpAny_bind (wpAny_standAt ?_)
 unfold raiseStmt
 refine wpAny_bind (wpAny_bind (thn (he pins s σ H _ I h) fun v s1 ⟨x,H1,I1,r,e,C,dd,tl,ex,xc,eh,q⟩=>?_))
 subst ex
 obtain rfl:v=Value.ref e:=r
 have hh:=I1.ok.hd hc
 obtain ⟨nm,q',N,bs,sn,sub,ab,col,dd',k0,k1,k2,k3,k5,oK⟩:=xc.obj
 have oC:=I1.kIn _ _ oK
 obtain ⟨⟨t,oe⟩,_,_⟩:=I1.hok e _ eh
 have hE:X.xe (.ref e) s1:=q pins s1 I1 (I1.un (t':=s1.toks) (un_del eh) (hok_del I1.hok eh)) (flt_new ⟨t,oe⟩)
 have hcB:(Value.ref C :: (tl.map Value.ref ++ bmV)).contains (.type "BaseException")=true:=by simp
 obtain ⟨hp,g,dr,tk,os⟩:=s1
 repeat (first | with_reducible refine wpAny_loadPart_at oe ?_ | with_reducible refine wpAny_loadPart_at oC ?_ | (with_reducible refine wpAny_isSubtype_exc oC ?_; rw [hcB]) | wp_step)
 exact wpAny_raiseNew_none hh hE
end
end EX
namespace EX
open PySem PySem.Spec PySem.Calls PyProof.Rows L2 VT
abbrev WT:=Addr→Option Int→Prop
def PlOk (H:Hp) (dd:Option Addr):Option Int→Prop
 | none=>dd=none
 | some i=>∃ d,dd=some d∧H d=some (.xd [("place",.int i)])
def spE (K:PySem.W.Frag) (n:Nat) (G:WT→List T→(Rt→Prop)→Prop):Sp:=fun vs H Q E=>∃ W,spP K n (G W) vs H Q E∧∀ C p dd H',Same H H'→PlOk H' dd p→W C p→E (.ref C) dd H'
structure Wsh (X:Cx) (Z:Zc) (W:WT):Prop where
 calm:X.calm=true
 own:PassesOwn (model X.prog X.w) X.A X.env X.xe
 P0:Z.P=[]
 H0:Z.H0=X.H₀
 ex:X.ex=[]
 xe:∀ pins σ H s e C dd T p,Inv X pins σ H s→Flt s.heap e C dd T .none→H e=none→(∀ a,T=some a→H a=none)→X.s₀.heap.get? e=none→(∀ a,T=some a→X.s₀.heap.get? a=none)→Same Z.H0 H→PlOk H dd p→W C p→X.xe (.ref e) s
theorem keep0 {K:PySem.W.Frag} {Z:Zc} {tm:List (T×V)} {O:List (Option Addr)} {ρ:En} {σ:L2.St} {H:Hp} (h:Z.P=[]) (I:EnvAt K Z tm O ρ σ H):Same Z.H0 H:=fun b o e=>I.keep b o e (by rw [h]; simp)
section
variable {X:Cx} {Z:Zc} {W:WT} {C f:Addr} {fd:FuncData} {ps:List Str} {k n:Nat} {x:Str} {g:FA}
end
section
variable {P:Program} {w:World} {K:PySem.W.Frag} {mg:Str→Option Value} {base:Heap}
def CalE (P:Program) (w:World) (K:PySem.W.Frag) (mg:Str→Option Value) (base:Heap) (x:Str) (ps:List Str) (k:Nat) (sp:Sp):Prop :=
 ∃ f fd,mg x=some (.ref f)∧PySem.W.keepIn K (.ref f)=true∧Binds K fd ps []∧FnOk P w K mg base (CX1 P w) k f fd ps sp
theorem pz0:∀ n (as:List Addr) k,pz (List.replicate n false) as k=[]
 | 0,_,_=>rfl
 | n+1,as,k=>pz0 n as (k+1)
theorem fins0:∀ n (ρ:En),fins (List.replicate n false) ρ=[]
 | 0,_=>rfl
 | n+1,ρ=>fins0 n ρ.tail
theorem en00:∀ n (ts:List T),ts.length=n→en0 (List.replicate n false) ts=ts.map fun t=>some (t,false)
 | 0,ts,e=>by cases ts <;> simp_all [en0]
 | n+1,[],e=>by simp at e
 | n+1,t :: ts,e=>by rw [List.replicate_succ,en0,en00 n ts (by simpa using e)]; rfl
theorem as0:∀ {n:Nat} {H:Hp} {A as:List Addr} {ts:List T} {vs:List V},ArgsAt K H A (List.replicate n false) as ts vs→as=[]
 | 0,_,_,_,_,_,h=>h.1
 | n+1,_,_,_,_,_,h=>let ⟨_,_,_,_,_,_,_,h⟩:=h; as0 (n:=n) h
theorem fnE {x qual:Str} {st:Stmt} {f:Addr} {fd:FuncData} {N ps:List Str} {k n:Nat} {G:WT→List T→(Rt→Prop)→Prop} (F:Fun K x qual st f fd) (S:FnScope N ps (defScope st)) (hn:n=ps.length)
  (hbody:∀ (cdv:Value) (A:Around) (outer:List Env) (s:Shared) (H:Hp) (E:XK) (Ox:List Addr),Room k (A.deeper (envOfC qual (defScope st) s.heap.objs.size f cdv))→∀ W ts q,G W ts q→Wsh (cxOf (CX1 P w) P w K mg base N qual (defScope st) f cdv A outer s H E) ⟨H,[],Ox⟩ W →
    ∃ g,VSs (cxOf (CX1 P w) P w K mg base N qual (defScope st) f cdv A outer s H E) ⟨H,[],Ox⟩ (defBody st) g∧(ts.length=n→g { nx:=fun _=>q (.vw .non),rt:=fun _ r=>q r } (ts.map (fun t=>some (t,false)) ++ List.replicate (N.length - ts.length) none))) :
  FnOk P w K mg base (CX1 P w) (k+1) f fd ps (spE K n G):=by
 obtain ⟨oc,od,kV,doc,pm,an,cdv,ct,osl,rfl,lk,hcd⟩:=F.ex
 refine fn_of lk hcd S (fun vs H Q E h=>?_) fun A outer s H vs Q E hr hsp=>?_
 · obtain ⟨W,⟨ts,as,Ox,q,_,_,_,ha,_⟩,_⟩:=h
   rw [(args_len ha).2.1,List.length_replicate,hn]
 · obtain ⟨W,⟨ts,as,Ox,q,nd,nx,ox,ha,hG,kk⟩,hE⟩:=hsp
   have l1:=(args_len ha).1
   rw [List.length_replicate] at l1
   have e0:=as0 ha
   subst e0
   have hw:Wsh (cxOf (CX1 P w) P w K mg base N qual (defScope st) f cdv A outer s H E) ⟨H,[],Ox⟩ W :=
    ⟨rfl,PassesOwn.leaving,rfl,rfl,rfl,fun pins σ H' s' e C dd T p I fl h1 h2 h3 h4 sm pl w=>xe_out I fl h1 h2 h3 h4 (hE C p dd H' sm pl w)⟩
   obtain ⟨g,h1,h2⟩:=hbody cdv A outer s H E Ox hr W ts (q []) hG hw
   refine ⟨_,h1 [],?_⟩
   have:=start_ok (X:=cxOf (CX1 P w) P w K mg base N qual (defScope st) f cdv A outer s H E) (N:=N) (g:=g) nd nx ox ha kk (by
    rw [en00 n ts l1]
    simp only [fins0]
    exact h2 l1)
   rw [pz0] at this
   exact this
end
end EX
namespace EX
open PySem PySem.Spec PySem.Calls PyProof.Rows L2
open PySem.W (findIn typeIn Looks InstAt)
def exA (C e:Addr) (dd:Option Addr):Heap→Prop:=fun h=>∃ oe vs,h.get? e=some oe∧oe.cls = .ref C∧oe.dict=dd∧oe.data = .fields vs
section
variable {X:Cx} {pins:List (Addr×Obj)} {σ:L2.St} {H H1:Hp} {s s1:Shared} {h':Heap} {e:Addr} {T:Option Addr}
theorem inv_kp (I1:Inv X pins σ H1 s1) (I:Inv X pins σ H s) (st:X.stack=X.env :: X.outer∧X.env.frame=some X.env.locals) (k:Kp (frs X.stack) e T s.heap h') (ne:s1.heap.get? e=none) (nT:∀ a,T=some a→s1.heap.get? a=none)
  (he:H e=none) (hT:∀ a,T=some a→H a=none):Inv X pins σ H { s with heap:=h' }:=by
 have ok1:∀ b o,s1.heap.get? b=some o→b≠e∧T≠some b:=fun b o q=>⟨fun z=>by (rw [z,ne] at q; cases q),fun z=>by (rw [nT b z] at q; cases q)⟩
 have inS:∀ b,b∈frs X.stack→b=X.env.locals∨b∈X.fs:=fun b hb=>by
  rw [st.1] at hb
  unfold frs at hb
  rw [List.filterMap_cons,st.2] at hb
  exact List.mem_cons.mp hb
 have ok0:∀ b o,X.s₀.heap.get? b=some o→b∉X.ex→(b≠e∧T≠some b)∧b≠X.env.locals:=fun b o q hx=>by
  obtain ⟨o',q'⟩:=I1.base.there b o q hx
  exact ⟨ok1 b o' q',Nat.ne_of_lt (Nat.lt_of_lt_of_le (Heap.lt_size q) I.ok.above)⟩
 have okT:∀ b u,H b=some u→b≠e∧T≠some b∧b∉frs X.stack:=fun b u z=>⟨fun y=>by (rw [y,he] at z; cases z),fun y=>by (rw [hT b y] at z; cases z),fun y=>by (rw [I.stkFree b y] at z; cases z)⟩
 have cellK:∀ x c v,X.env.cells.lookup x=some c→s.heap.IsCell c v→Heap.IsCell h' c v:=fun x c v q ⟨o,ho,hd⟩=>by
  obtain ⟨v1,o1,ho1,_⟩:=I1.cell x c q
  obtain ⟨n1,n2⟩:=ok1 c o1 ho1
  obtain ⟨sl,q2⟩:=k.any ho n1 n2
  exact ⟨_,q2,hd⟩
 refine ⟨I.ok,I.os,I.bare,⟨fun b o q n nf hx=>?_,fun b o q n nf hx=>?_,I.base.free,fun b o q hx=>?_,I.base.tups,I.base.frzs,I.base.tbls⟩,?_,fun x c q=>?_,I.free,I.freeC,fun p hp=>?_,fun b u z=>?_,I.len⟩
 · obtain ⟨⟨n1,n2⟩,n3⟩:=ok0 b o q hx
   exact k.keep b o (I.base.keep b o q n nf hx) n1 n2 fun z=>(inS b z).elim n3 nf
 · obtain ⟨⟨n1,n2⟩,n3⟩:=ok0 b o q hx
   obtain ⟨sl,q1⟩:=I.base.slot b o q n nf hx
   obtain ⟨sl2,q2⟩:=k.any q1 n1 n2
   exact ⟨sl2,q2⟩
 · obtain ⟨⟨n1,n2⟩,n3⟩:=ok0 b o q hx
   obtain ⟨o1,q1⟩:=I.base.there b o q hx
   obtain ⟨sl2,q2⟩:=k.any q1 n1 n2
   exact ⟨_,q2⟩
 · obtain ⟨m,⟨o,es,ep,ho,hd,r⟩,hl⟩:=I.loc
   obtain ⟨m1,⟨o1,_,_,ho1,_⟩,_⟩:=I1.loc
   obtain ⟨n1,n2⟩:=ok1 _ o1 ho1
   obtain ⟨sl,q⟩:=k.any ho n1 n2
   refine ⟨m,⟨_,es,ep,q,hd,r⟩,fun i x v e1 e2 e3=>?_⟩
   obtain ⟨u,rv,l⟩:=hl i x v e1 e2 e3
   refine ⟨u,rv,?_⟩
   rcases l with l | ⟨kk,c,q,z⟩
   · exact .inl l
   · exact .inr ⟨kk,c,q,cellK x c _ q z⟩
 · obtain ⟨v,z⟩:=I.cell x c q
   exact ⟨v,cellK x c v q z⟩
 · obtain ⟨q,n,ne',nf,d⟩:=I.pin p hp
   obtain ⟨q1,_,_,_,_⟩:=I1.pin p hp
   obtain ⟨n1,n2⟩:=ok1 _ _ q1
   exact ⟨k.keep p.1 p.2 q n1 n2 fun z=>(inS _ z).elim ne' nf,n,ne',nf,d⟩
 · refine (I.hok b u z).stay (fun c v hc q=>?_) (fun _ y=>y) fun _ _ y=>y
   have hh:∃ u,H c=some u:=by
    rcases hc with y | y
    · exact ⟨u,by rw [y]; exact z⟩
    · exact ⟨_,y⟩
   obtain ⟨u',y⟩:=hh
   obtain ⟨n1,n2,n3⟩:=okT c u' y
   exact k.keep c v q n1 n2 n3
theorem goes_ok {M:Model} {A:Around} {E:Value→Shared→Prop} {n:Str} {i:Nat} {pos:Pos} {Q:Unit→Shared→Prop} (I:Inv X pins σ H s) (hN:X.N.Nodup) (hi:X.N[i]?=some n) (hl:X.env.scope.names.lookup n=some .local)
  (h:∀ s',Inv X pins (σ.set i none) H s'→Q () s'):wpAny M A (do bindName X.env n .none; unbindBehindTheSuite X.env n pos) Q E s:=by
 obtain ⟨m,hn,hlk⟩:=id I.loc
 have hcls:(X.env.scope.kind == .class || (X.env.scope.kind == .module && X.env.locals != X.env.globals))=false:=by rw [I.ok.kind]; rfl
 have hiσ:i < σ.length:=by rw [I.len]; exact (List.getElem?_eq_some_iff.mp hi).1
 obtain ⟨oL,_,_,hoL,_⟩:=id hn
 refine wpAny_nameGoes_keeps hl hn hcls fun h' v hn' hs=>h _ ⟨I.ok,I.os,I.bare,⟨fun b o q z hb hx=>?_,fun b o q z hb hx=>?_,I.base.free,fun b o q hx=>?_,I.base.tups,I.base.frzs,I.base.tbls⟩,⟨_,hn',fun j y v' e1 e2 e3=>?_⟩,fun y c q=>?_,I.free,I.freeC,fun p hp=>?_,fun b ob q=>?_,by simpa using I.len⟩
 · exact (hs.2 b (Nat.ne_of_lt (Nat.lt_of_lt_of_le (Heap.lt_size q) I.ok.above))).trans (I.base.keep b o q z hb hx)
 · obtain ⟨sl,q1⟩:=I.base.slot b o q z hb hx
   exact ⟨sl,(hs.2 b (Nat.ne_of_lt (Nat.lt_of_lt_of_le (Heap.lt_size q) I.ok.above))).trans q1⟩
 · obtain ⟨o',q1⟩:=I.base.there b o q hx
   exact ⟨o',(hs.2 b (Nat.ne_of_lt (Nat.lt_of_lt_of_le (Heap.lt_size q) I.ok.above))).trans q1⟩
 · have hj:j≠i:=fun z=>by
    subst z
    rw [List.getElem?_set_self hiσ] at e2
    cases e2
   rw [List.getElem?_set_ne (Ne.symm hj)] at e2
   obtain ⟨u',r',q⟩:=hlk j y v' e1 e2 e3
   refine ⟨u',r',?_⟩
   rcases q with ⟨kk,q⟩ | ⟨kk,c,q,z⟩
   · refine .inl ⟨kk,?_⟩
     have:y≠n:=fun z=>hj (nodup_ix hN e1 (z▸hi))
     simp [this,q]
   · exact .inr ⟨kk,c,q,z.sameBut hs (I.cne y c q)⟩
 · obtain ⟨w',z⟩:=I.cell y c q
   exact ⟨w',z.sameBut hs (I.cne y c q)⟩
 · obtain ⟨q,z,ne,nf,d⟩:=I.pin p hp
   exact ⟨(hs.2 p.1 ne).trans q,z,ne,nf,d⟩
 · refine (I.hok b ob q).stay (fun c w' hc z=>(hs.2 c ?_).trans z) (fun _ z=>z) fun _ _ z=>z
   rintro rfl
   rcases hc with y | y
   · rw [← y,I.free] at q; cases q
   · rw [I.free] at y; cases y
end
section
variable {prog:Program} {w:World} {A:Around} {E:Value→Shared→Prop} {s:Shared} {K:PySem.W.Frag} {C S e:Addr} {tl ts:List Addr} {oe:Obj}
theorem matches_exc {Q:Bool→Shared→Prop} (X:K.In s.heap) (xc:XC K C tl) (xs:XC K S ts) (hS:C=S∨S∈tl) (he:s.heap.get? e=some oe) (hc:oe.cls = .ref C) (h:Q true s):wpAny (model prog w) A (excMatches (.ref e) (.ref S)) Q E s:=by
 obtain ⟨nm,q',N,bs,sn,sub,ab,col,dd',k0,k1,k2,k3,k5,oK⟩:=xc.obj
 obtain ⟨nmS,qS',NS,bsS,snS,subS,abS,colS,ddS',k0S,k1S,k2S,k3S,k5S,oKS⟩:=xs.obj
 have oC:=X _ _ oK
 have oS:=X _ _ oKS
 have f:=tc_notTuple
 have c1:(Value.ref S :: (ts.map Value.ref ++ bmV)).contains (.type "BaseException")=true:=by simp
 have c2:(Value.ref C :: (tl.map Value.ref ++ bmV)).contains (.ref S)=true:=by
  rcases hS with z | z
  · subst z; simp
  · simp [z]
 obtain ⟨hp,g,dr,tk,os⟩:=s
 unfold excMatches
 repeat (first | (with_reducible refine wpAny_loadPart_at he ?_; rw [hc]) | with_reducible refine wpAny_loadPart_at oS ?_ | (with_reducible refine wpAny_isSubtype_exc oS ?_; rw [c1]) | (with_reducible refine wpAny_isSubtype_exc oC ?_; rw [c2]) | wp_step)
 exact h
end
end EX
namespace EX
open PySem PySem.Spec PySem.Calls PyProof.Rows L2
open PySem.W (findIn typeIn Looks InstAt)
abbrev hdX (X:Cx) (e:Addr):Cx:={ X with A:=X.A.mark (some (.ref e)),calm:=false }
theorem hd_ok {X:Cx} (ok:X.Ok) (e:Addr):(hdX X e).Ok :=
 ⟨ok.mod,ok.kind,ok.glob,ok.blt,ok.above,ok.inj,ok.has,ok.cab,(fun z=>by cases z),ok.frames,ok.stk,ok.exf,ok.bs,ok.bsz,ok.noex,ok.exfs,ok.funs,ok.frf⟩
section
variable {X:Cx} {pins:List (Addr×Obj)} {σ:L2.St} {H:Hp} {s:Shared}
theorem inv_hd (I:Inv X pins σ H s) (e:Addr):Inv (hdX X e) pins σ H s:=⟨hd_ok I.ok e,I.os,I.bare,I.base,I.loc,I.cell,I.free,I.freeC,I.pin,I.hok,I.len⟩
theorem inv_track {H1:Hp} {s1:Shared} {e:Addr} {o:HO} (I1:Inv X pins σ H1 s1) (I:Inv X pins σ H s) (ne:s1.heap.get? e=none) (hx:X.ex=[]) (n3:H e=none) (new:ObjOk X.prog X.w (upd H e o) s.heap e o):Inv X pins σ (upd H e o) s:=by
 have ok1:∀ b u,s1.heap.get? b=some u→b≠e:=fun b u q z=>by rw [z,ne] at q; cases q
 have f0:X.s₀.heap.get? e=none:=by
  cases q:X.s₀.heap.get? e with
  | none=>rfl
  | some o=>obtain ⟨o',q'⟩:=I1.base.there e o q (by rw [hx]; simp); rw [ne] at q'; cases q'
 refine ⟨I.ok,I.os,I.bare,un_track I.base n3 f0,I.loc,I.cell,?_,fun x c q=>?_,fun p hp=>?_,hok_track I.hok n3 new,I.len⟩
 · obtain ⟨m1,⟨o1,_,_,ho1,_⟩,_⟩:=I1.loc
   rw [upd_ne (ok1 _ _ ho1)]; exact I.free
 · obtain ⟨v1,o1,ho1,_⟩:=I1.cell x c q
   rw [upd_ne (ok1 _ _ ho1)]; exact I.freeC x c q
 · obtain ⟨q1,_,_,_,_⟩:=I1.pin p hp
   obtain ⟨q,z,r⟩:=I.pin p hp
   exact ⟨q,by rw [upd_ne (ok1 _ _ q1)]; exact z,r⟩
theorem inv_unhd {e:Addr} (ok:X.Ok) (I:Inv (hdX X e) pins σ H s):Inv X pins σ H s:=⟨ok,I.os,I.bare,I.base,I.loc,I.cell,I.free,I.freeC,I.pin,I.hok,I.len⟩
end
section
variable {X:Cx} {S f:Addr} {ts:List Addr} {fd:FuncData} {ps:List Str} {k ix iz jn:Nat} {x z n cl fx:Str} {sp:Sp} {a:Expr} {p0 p1 p2 p3 p4 p5 p6 p7 p8 pos:Pos} {ta:TA}
end
end EX
namespace VT
open PySem PySem.Spec PyProof.Rows L2
theorem wComp_mapL {α:Type} {f u:α→T} {h:FG} {fe:FE} {ρ:En}:∀ {xs:List α} {Q:List T→Prop},(∀ x∈xs,∀ r:T→Prop,r (u x)→h (f x) ρ fun ρ2=>fe ρ2 r)→Q (xs.map u)→wComp h fYes fe ρ (xs.map f) Q
 | [],Q,_,hq=>hq
 | x :: xs,Q,step,hq=>by
   simp only [List.map_cons,wComp]
   exact step x List.mem_cons_self (fun y=>wComp h fYes fe ρ (xs.map f) fun us=>Q (y :: us)) (wComp_mapL (Q:=fun us=>Q (u x :: us)) (fun y hy=>step y (List.mem_cons_of_mem _ hy)) hq)
theorem wComp_filL {α:Type} {f u:α→T} {p:α→Bool} {h:FG} {fc:FB} {fe:FE} {ρ:En}:∀ {xs:List α} {Q:List T→Prop},(∀ x∈xs,∀ r s:Prop,(if p x=true then ∀ k:T→Prop,(k (u x)→r)→r else s)→True)→(∀ x∈xs,∀ (k:T→Prop) (s:Prop),(if p x=true then k (u x) else s)→h (f x) ρ fun ρ2=>fc ρ2 fun b=>if b=true then fe ρ2 k else s)→Q ((xs.filter p).map u)→wComp h fc fe ρ (xs.map f) Q
 | [],Q,_,_,hq=>hq
 | x :: xs,Q,t0,step,hq=>by
   simp only [List.map_cons,wComp]
   refine step x List.mem_cons_self _ _ ?_
   by_cases hp:p x=true
   · rw [if_pos hp]
     rw [List.filter_cons_of_pos hp] at hq
     exact wComp_filL (Q:=fun us=>Q (u x :: us)) (fun _ _ _ _ _=>trivial) (fun y hy=>step y (List.mem_cons_of_mem _ hy)) hq
   · rw [if_neg hp]
     rw [List.filter_cons_of_neg hp] at hq
     exact wComp_filL (fun _ _ _ _ _=>trivial) (fun y hy=>step y (List.mem_cons_of_mem _ hy)) hq
end VT
namespace VT
open PySem PySem.Spec PyProof.Rows L2 PySem.MeetsSeq PySem.SeqAt
section
variable {X:Cx}
end
section
variable {X:Cx} {Z:Zc} {o e:Expr} {fo:FE} {apos cpos:Pos}
end
end VT
namespace VT
open PySem PySem.Spec PyProof.Rows L2 PySem.MeetsSeq PySem.SeqAt
section
variable {X:Cx}
end
section
variable {X:Cx} {Z:Zc} {o e:Expr} {fo:FE} {apos cpos:Pos}
end
end VT
namespace EX
open PySem PySem.Spec PySem.Calls PyProof.Rows L2 VT
open PySem.W (kitOne InstAt)
structure XK1 (K:PySem.W.Frag) (C:Addr):Prop where
 xc:∃ tl,XC K C tl
 xf:XF K C
structure Ex (K:PySem.W.Frag) (H:Hp) (e C:Addr) (dd:Option Addr) (p:Option Int):Prop where
 ex:H e=some (.ext (exA C e dd))
 pl:PlOk H dd p
 kl:XK1 K C
theorem Ex.same {K:PySem.W.Frag} {H H':Hp} {e C:Addr} {dd:Option Addr} {p:Option Int} (x:Ex K H e C dd p) (s:Same H H'):Ex K H' e C dd p :=
 ⟨s _ _ x.ex,by cases p with | none=>exact x.pl | some i=>obtain ⟨d,h1,h2⟩:=x.pl; exact ⟨d,h1,s _ _ h2⟩,x.kl⟩
section
variable {X:Cx} {Z:Zc} {e C:Addr} {dd:Option Addr} {pp:Option Int}
theorem ex_inst {pins:List (Addr×Obj)} {σ:L2.St} {H:Hp} {s:Shared} (I:Inv X pins σ H s) (x:Ex X.K H e C dd pp):∃ oe od,InstAt s.heap e oe C od:=by
 obtain ⟨⟨oe,vs,h1,h2,h3,h4⟩,_,_⟩:=I.hok e _ x.ex
 have nc:PySem.W.notCls oe=true:=by unfold PySem.W.notCls; rw [h4]
 cases pp with
 | none =>
   have pl:dd=none:=x.pl
   exact ⟨oe,none,h1,h2,nc,by rw [h3,pl]; trivial⟩
 | some i =>
   obtain ⟨d,rfl,hd⟩:=x.pl
   obtain ⟨mA,⟨o,_,_,ho,_⟩,_⟩:=I.hok d _ hd
   exact ⟨oe,some o,h1,h2,nc,by rw [h3]; exact ho⟩
def rIsi (K:PySem.W.Frag) (cv:V) (c:Value) (e C:Addr) (dd:Option Addr) (pp:Option Int) (b:Bool):List V→Hp→VK→Prop:=fun xs H Q=>xs=[.ref e,cv]∧Ex K H e C dd pp∧kitOne K (.ref C) c=some b∧Q (.bl b) H
theorem call_isi {cv:V} {c:Value} {b:Bool} (rc:∀ u,RelV cv u→u=c):CallR X (.builtin "isinstance") (rIsi X.K cv c e C dd pp b):=by
 rintro pins s σ H xs us Q I r ⟨rfl,x,hk,q⟩
 obtain ⟨u,w',rfl,rx,ry⟩:=vals2 r
 obtain rfl:u=Value.ref e:=rx
 obtain rfl:=rc _ ry
 obtain ⟨oe,od,J⟩:=ex_inst I x
 obtain ⟨tl,xc⟩:=x.kl.xc
 exact isi_exc I.kIn xc x.kl.xf J hk fun tk=>⟨.bl b,H,I.tok _,rfl,q⟩
def fIsi (i:Nat) (e:Addr) (b:Bool):FP:=fun ρ Q=>ρ[i]?=some (some (.ob e,false))∧Q (.vw (.bl b))
theorem vp_isi (i:Nat) {x:Str} {ce:Expr} {cv:V} {c:Value} {b:Bool} {p1 p2 pos:Pos} (xz:Ex X.K Z.H0 e C dd pp) (hP:Z.P=[]) (rc:∀ u,RelV cv u→u=c) (hk:kitOne X.K (.ref C) c=some b) (hg:Gl X "isinstance") (hm:X.mg "isinstance" = none) (hc:PE X ce (tC cv))
  (hN:X.N[i]?=some x:=by rfl) (hv:Vis X.env.scope x:=by first | exact Or.inl rfl | exact Or.inr (Or.inl rfl) | exact Or.inr (Or.inr rfl)) (hd:(x == ("__debug__" : Str))=false:=by decide) (hcd:(x == ("__classdict__" : Str))=false:=by decide)
  (hs1:starEach [.Name x p1,ce] X.env=(false,eval (.Name x p1) X.env) :: starEach [ce] X.env:=by rfl) (hs2:starEach [ce] X.env=(false,eval ce X.env) :: starEach [] X.env:=by rfl) (hpl:(backTo pos (starEach [ce] X.env)).any (·.1)=false:=by rfl) :
  VP X Z (.Call (.Name "isinstance" p2) [.Name x p1,ce] [] pos) (fIsi i e b):=.mk fun tm =>
 PE.weak (pe_callB (call_isi (e:=e) (C:=C) (dd:=dd) (pp:=pp) rc) hg hm b_isinstance (pa_cons (pe_var hN hv hd hcd) (pa_cons hc pa_nil hs2) hs1) (by decide) (by decide) hs1 hpl) fun σ H Q ⟨ρ,O,q,I,hf,k⟩=>by
  obtain ⟨h1,h2⟩:=hf
  obtain ⟨o,s,h3,h4,rfl,v,rfl,h5⟩:=I.sl i _ h1
  simp only [At] at h5
  subst h5
  exact ⟨_,h4,rfl,xz.same (keep0 hP I),hk,k _ h2 _ H (Same.refl H) ⟨I,at_bl⟩⟩
end
end EX
namespace EX
open PySem PySem.Spec PySem.Calls PyProof.Rows L2 VT
section
variable {P:Program} {w:World} {K:PySem.W.Frag} {mg:Str→Option Value} {base:Heap}
end
section
variable {X:Cx} {Z:Zc} {e C f:Addr} {dd:Option Addr} {pp:Option Int} {fd:FuncData} {ps:List Str} {k:Nat}
end
theorem env_now {K:PySem.W.Frag} {Z:Zc} {tm:List (T×V)} {O:List (Option Addr)} {ρ:En} {σ:L2.St} {H:Hp} (hP:Z.P=[]) (I:EnvAt K Z tm O ρ σ H) (hv:∀ (i:Nat) (t:T),ρ[i]?≠some (some (t,true))):EnvAt K ⟨H,[],Z.Ox⟩ tm O ρ σ H:=by
 have r0:roots O=[]:=by
  cases hr:roots O with
  | nil=>rfl
  | cons a r =>
    have ha:a∈roots O:=by rw [hr]; exact List.mem_cons_self
    obtain ⟨i,hi⟩:=List.mem_iff_getElem?.mp (mem_roots.mp ha)
    have hl:=(List.getElem?_eq_some_iff.mp hi).1
    have hl':i < ρ.length:=by rw [← I.lO]; exact hl
    obtain ⟨o,s,h1,h2,h3⟩:=I.sl i ρ[i] (by simp)
    rw [hi] at h1
    cases h1
    cases q:ρ[i] with
    | none=>rw [q] at h3; cases h3
    | some tb =>
      obtain ⟨t,b⟩:=tb
      rw [q] at h3
      cases b with
      | false=>cases h3.1
      | true=>exact absurd (by rw [← q]; simp) (hv i t)
 refine ⟨I.lσ,I.lO,I.sl,I.nd,fun a ha=>by (rw [r0] at ha; cases ha),fun p hp=>(nomatch hp),I.ox,fun b o y _=>y,I.tmp⟩
theorem env_back {K:PySem.W.Frag} {Z:Zc} {H0:Hp} {tm:List (T×V)} {O:List (Option Addr)} {ρ:En} {σ:L2.St} {H:Hp} (hP:Z.P=[]) (s:Same Z.H0 H0) (I:EnvAt K ⟨H0,[],Z.Ox⟩ tm O ρ σ H):EnvAt K Z tm O ρ σ H:=by
 refine ⟨I.lσ,I.lO,I.sl,I.nd,fun a ha=>?_,fun p hp=>by (rw [hP] at hp; cases hp),I.ox,fun b o y _=>I.keep b o (s _ _ y) (by simp),I.tmp⟩
 obtain ⟨h1,h2,h3⟩:=I.own a ha
 refine ⟨.inr ?_,h2,h3⟩
 rcases h1 with z | z
 · exact absurd z (by simp)
 · exact s.free z
theorem fin_back {K:PySem.W.Frag} {Z:Zc} {H0:Hp} {tm:List (T×V)} {d:VEn} {D:Ends} (hP:Z.P=[]) (s:Same Z.H0 H0) (F:VT.Fin K Z tm d D):VT.Fin K ⟨H0,[],Z.Ox⟩ tm d D:=by
 refine ⟨fun O ρ σ H I h=>F.nx O ρ σ H (env_back hP s I) h,fun O ρ σ H r v z h=>F.rt O ρ σ H r v ?_ h,fun O ρ σ H I h=>F.bk O ρ σ H (env_back hP s I) h,fun O ρ σ H I h=>F.ct O ρ σ H (env_back hP s I) h⟩
 cases r with
 | vw t=>exact ⟨env_back hP s z.1,z.2⟩
 | fr t =>
   obtain ⟨a,rfl,I,hR,h0,hx⟩:=z
   exact ⟨a,rfl,env_back (Z:=Z.ex a) hP s I,hR,s.free h0,hx⟩
end EX
namespace EX
open PySem PySem.Spec PySem.Calls PyProof.Rows L2 VT
theorem env_drop {K:PySem.W.Frag} {Z:Zc} {tm:List (T×V)} {O:List (Option Addr)} {ρ:En} {σ:L2.St} {H:Hp} {i:Nat} {s:Option V} (I:EnvAt K Z tm O ρ σ H) (hi:ρ[i]?=some none):EnvAt K Z tm O ρ (σ.set i s) H:=by
 refine ⟨by rw [List.length_set]; exact I.lσ,I.lO,fun j e h=>?_,I.nd,I.own,I.par,I.ox,I.keep,I.tmp⟩
 obtain ⟨o,s',h1,h2,h3⟩:=I.sl j e h
 by_cases z:j=i
 · subst z
   rw [hi] at h
   cases h
   exact ⟨o,s,h1,by rw [List.getElem?_set_self ((List.getElem?_eq_some_iff.mp h2).1)],h3⟩
 · exact ⟨o,s',h1,by rw [List.getElem?_set_ne (Ne.symm z)]; exact h2,h3⟩
section
variable {X:Cx} {Z:Zc} {S f:Addr} {ts:List Addr} {fd:FuncData} {ps:List Str} {k ix iz jn ia:Nat} {x z n cl fx y:Str} {p0 p1 p2 p3 p4 p5 p6 p7 p8 p9 pos:Pos} {rest:List Stmt} {G:WT→List T→(Rt→Prop)→Prop} {g1:FS} {g2:Addr→Addr→Int→FS} {g3:Addr→Addr→FS}
def noOwn (ρ:En):Prop:=∀ (i:Nat) (t:T),ρ[i]?≠some (some (t,true))
def gX (g2:Addr→Addr→Int→FS) (g3:Addr→Addr→FS) (e C:Addr):Option Int→FS
 | some n=>g2 e C n
 | none=>g3 e C
end
end EX
namespace EX
open PySem PySem.Spec PySem.Calls PyProof.Rows L2
open PySem.W (findIn typeIn clsIn subIn mroIn specialIn takesIn kitOne)
theorem tl_of {K:PySem.W.Frag} {a:Addr} (h:tlB K a=true):∃ c dd cd sl o es ep,K.lookup a=some ⟨c,dd,.cls cd,sl⟩∧K.lookup cd.ns=some o∧o.data = .dict es ep∧StrKeys es∧nsFind es "__init__" = none:=by
 unfold tlB at h
 split at h
 · rename_i c dd cd sl h1
   split at h
   · rename_i c2 d2 es ep sl2 h2
     rw [Bool.and_eq_true] at h
     refine ⟨c,dd,cd,sl,_,es,ep,h1,h2,rfl,fun e he=>?_,Option.isNone_iff_eq_none.mp h.2⟩
     have:=List.all_eq_true.mp h.1 e (by simpa using he)
     cases q:e.key with
     | str n t=>exact ⟨n,t,rfl⟩
     | _=>rw [q] at this; cases this
   · cases h
 · cases h
theorem xc_of {K:PySem.W.Frag} {C:Addr} {tl:List Addr} (h:xcB K C tl=true):XC K C tl:=by
 unfold xcB at h
 split at h
 · rename_i c dd cd sl h1
   simp only [Bool.and_eq_true] at h
   obtain ⟨e1,e2,e3,e4,e5,e6⟩:=h
   refine ⟨?_,fun a ha=>tl_of (List.all_eq_true.mp e6 a ha)⟩
   obtain ⟨nm,bs,mro,ns,q,hd,sn,sub,ab,col,hdel⟩:=cd
   have e1:=beq_iff_eq.mp e1
   have e2:=beq_iff_eq.mp e2
   simp only at e2 e3 e4
   subst e1 e2 e3
   have e4:hdel=false:=by cases hdel <;> simp_all
   subst e4
   obtain ⟨l⟩:=sl
   match l,e5 with
   | [k0,k1,k2,k3,some v,k5],e5 =>
     have e5:=beq_iff_eq.mp e5
     subst e5
     exact ⟨nm,q,ns,bs,sn,sub,ab,col,dd,k0,k1,k2,k3,k5,h1⟩
 · cases h
theorem xf_of {K:PySem.W.Frag} {C:Addr} (h:xfB K C=true):XF K C:=by
 unfold xfB at h
 simp only [Bool.and_eq_true,beq_iff_eq] at h
 obtain ⟨h1,h2,h3,h4,h5,h6,h7,h8,h9⟩:=h
 exact ⟨h1,h2,h3,h4,h5,h6,h7,h8,h9⟩
theorem ka_of {K:PySem.W.Frag} {cl:List Addr} {S:Addr} (h:kaB K cl S=true):(∀ C∈cl,∀ D∈cl,kitOne K (.ref C) (.ref D)=some (decide (C=D)))∧(∀ C∈cl,kitOne K (.ref C) (.type "ValueError")=some true)∧∀ C∈cl,XC K C [S]∧XF K C:=by
 have h:=List.all_eq_true.mp h
 refine ⟨fun C hC D hD=>?_,fun C hC=>?_,fun C hC=>?_⟩
 · have:=h C hC
   simp only [Bool.and_eq_true,List.all_eq_true,beq_iff_eq] at this
   exact this.2.2.2 D hD
 · have:=h C hC
   simp only [Bool.and_eq_true,beq_iff_eq] at this
   exact this.2.2.1
 · have:=h C hC
   simp only [Bool.and_eq_true] at this
   exact ⟨xc_of this.1,xf_of this.2.1⟩
theorem kr_of {K:PySem.W.Frag} {cs cl:List Addr} {S:Addr} (h:krB K cs cl S=true):(∀ C∈cs,∀ D∈cl,kitOne K (.ref C) (.ref D)=some (decide (C=D)))∧(∀ C∈cs,kitOne K (.ref C) (.type "ValueError")=some true)∧∀ C∈cs,XC K C [S]∧XF K C:=by
 have h:=List.all_eq_true.mp h
 refine ⟨fun C hC D hD=>?_,fun C hC=>?_,fun C hC=>?_⟩
 · have:=h C hC
   simp only [Bool.and_eq_true,List.all_eq_true,beq_iff_eq] at this
   exact this.2.2.2 D hD
 · have:=h C hC
   simp only [Bool.and_eq_true,beq_iff_eq] at this
   exact this.2.2.1
 · have:=h C hC
   simp only [Bool.and_eq_true] at this
   exact ⟨xc_of this.1,xf_of this.2.1⟩
end EX
namespace EX
open PySem PySem.Spec PySem.Calls PyProof.Rows L2 VT
open PySem.W (findIn typeIn Looks InstAt)
structure X0 (K:PySem.W.Frag) (mg:Str→Option Value) (x:Str) (C:Addr):Prop where
 m:mg x=some (.ref C)
 kp:PySem.W.keepIn K (.ref C)=true
 xc:∃ tl,XC K C tl
 n0:∃ c dd cd sl o es ep,K.lookup C=some ⟨c,dd,.cls cd,sl⟩∧K.lookup cd.ns=some o∧o.data = .dict es ep∧StrKeys es∧nsFind es "__init__" = none
section
variable {X:Cx} {C:Addr} {x:Str}
def tMk0 (C:Addr) (t:TA):TE:=fun σ H Q=>t σ H fun vs H1=>∃ y,vs=[.str y]∧∀ e,H1 e=none→Q (.ref e) (upd H1 e (.ext (exP C e none)))
theorem pe_mk0 {a:Expr} {es:List Expr} {p pos:Pos} {t:TA} (x0:X0 X.K X.mg x C) (hg:Gl X x) (ha:PA X (a :: es) t) (hdb:(x == ("__debug__" : Str))=false:=by decide)
  (he:starEach (a :: es) X.env=(false,eval a X.env) :: starEach es X.env:=by rfl) (hpl:(backTo pos (starEach es X.env)).any (·.1)=false:=by rfl):PE X (.Call (.Name x p) (a :: es) [] pos) (tMk0 C t):=by
 intro pins s σ H Q I h
 obtain ⟨tl,xc⟩:=x0.xc
 refine wpAny_Call_Name_kw (ld_glob I hg x0.m ?_ hdb)
 refine PySem.W.callWith_K (h₀:=X.base) I.ok.mod.kin x0.kp (thn (ha pos pins s σ H _ I h) fun us s1 ⟨vs,H1,I1,r,y,ev,q⟩=>⟨I1.kIn,?_⟩) he hpl
 subst ev
 obtain ⟨u1,r1,rfl,z1,r⟩:∃ u1 r1,us=u1 :: r1∧RelV (.str y) u1∧Vals [] r1:=by cases r with | cons a b=>exact ⟨_,_,rfl,a,b⟩
 cases r
 obtain ⟨nm,qn,N,bs,sn,sub,ab,col,dd,k0,k1,k2,k3,k5,oK⟩:=id xc.obj
 obtain ⟨c,dd',cd,sl,o,es,ep,g1,g2,g3,g4,g5⟩:=x0.n0
 rw [oK] at g1
 cases g1
 refine wpAny_call_exc_subT (g:=s1.gens) (d:=s1.drawn) (t:=s1.toks) (os:=s1.os) F.excBase_ValueError (own_tail I1.kIn xc.tail) (I1.kIn _ _ oK) ⟨o,es,ep,I1.kIn _ _ g2,g3,g4,fun _=>rfl⟩ g5 (fun h' e hm=>?_) (by show (1:Nat)≤sizeLine; rw [sizeLine_eq]; omega)
 obtain ⟨t0,he1,_,_⟩:=hm.there
 have n1:H1 e=none:=by
  cases q:H1 e with
  | none=>rfl
  | some o=>obtain ⟨u,z⟩:=obj_here (I1.hok e o q); rw [hm.new] at z; cases z
 have I2:Inv X pins σ (upd H1 e (.ext (exP C e none))) { s1 with heap:=h' }:=I1.un (t':=s1.toks) (un_track (Un.kept hm.keeps) n1 hm.new) (hok_track (I1.hok.kept hm.keeps) n1 (ex_ok he1))
 exact ⟨.ref e,_,I2,rfl,q e n1⟩
end
section
variable {X:Cx} {Z:Zc} {W:WT} {C:Addr} {x:Str}
def gRaise0 (W:WT) (C:Addr):FS:=fun _ _=>W C none
theorem x0_of {K:PySem.W.Frag} {mg:Str→Option Value} {C:Addr} {x:Str} {tl:List Addr} (m:mg x=some (.ref C)) (kp:PySem.W.keepIn K (.ref C)=true) (xc:XC K C tl) (h:tlB K C=true):X0 K mg x C:=⟨m,kp,⟨tl,xc⟩,tl_of h⟩
end
end EX
namespace EX
open PySem PySem.Spec PySem.Calls PyProof.Rows L2 VT
open PySem.W (findIn typeIn Looks InstAt)
section
variable {X:Cx} {S f:Addr} {ts:List Addr} {fd:FuncData} {ps:List Str} {k iz jn:Nat} {z n cl fx:Str} {sp:Sp} {a:Expr} {es:List Expr} {p1 p2 p3 p4 p5 p6 p7 p8 pos:Pos} {ta:TA}
def tTry2 (K:PySem.W.Frag) (S:Addr) (iz jn:Nat) (sp:Sp) (ta:TA):TS:=fun D σ H=>ta σ H fun vs H1=>sp vs H1 (fun v H2=>D.nx σ H2) fun c dd H2=>∃ C tl,c = .ref C∧XC K C tl∧(C=S∨S∈tl) ∧
 ∀ e,H1 e=none→H2 e=none→D.nx (((σ.set jn (some (.ref e))).set iz (some (.ref e))).set jn none) (upd H2 e (.ext (exA C e dd)))
theorem ps_try2 (st:X.stack=X.env :: X.outer∧X.env.frame=some X.env.locals) (F:FnOk X.prog X.w X.K X.mg X.base (CX1 X.prog X.w) k f fd ps sp) (hr:Room k X.A) (hg:Gl X fx) (hm:X.mg fx=some (.ref f)) (hk:PySem.W.keepIn X.K (.ref f)=true) (hb:Binds X.K fd ps [])
  (ha:∀ E1,PA (X.wish E1) (a :: es) ta) (hN:X.N.Nodup) (hiz:X.N[iz]?=some z) (hjn:X.N[jn]?=some n) (lz:Loc X.env.scope z) (ln:X.env.scope.names.lookup n=some .local)
  (hgS:Gl X cl) (hmS:X.mg cl=some (.ref S)) (xs:XC X.K S ts) (hall:∀ y,X.fn y=true) (hex:X.ex=[]) (d1:(fx == ("__debug__" : Str))=false:=by decide) (d2:(cl == ("__debug__" : Str))=false:=by decide) (d3:(n == ("__debug__" : Str))=false:=by decide) (d4:(n == ("__classdict__" : Str))=false:=by decide)
  (he:starEach (a :: es) X.env=(false,eval a X.env) :: starEach es X.env:=by rfl) (hpl:(backTo p2 (starEach es X.env)).any (·.1)=false:=by rfl)
  (hs1:swapsWith (.Call (.Name fx p1) (a :: es) [] p2) none p3.line X.env=pure false:=by rfl) (hs2:swapsWith (.Name n p5) (some (.Name z p6)) p7.line X.env=pure false:=by rfl) :
  PS X (.Try [.Expr (.Call (.Name fx p1) (a :: es) [] p2) p3] [.ExceptHandler (some (.Name cl p4)) (some n) [.Assign [.Name z p6] (.Name n p5) p7] p8] [] [] pos) (tTry2 X.K S iz jn sp ta):=by
 intro pins s σ H D I h
 refine wpAny_Try_except ?_
 generalize hE1:(fun (e:Value) (s₁:Shared)=>wpAny (model X.prog X.w) X.A (noteFrame e X.env) (fun _ s₂=>wpAny (model X.prog X.w) X.A (setFlight e none) (fun _ s₃=>wpAny (model X.prog X.w) X.A (handleBy e X.env [.ExceptHandler (some (.Name cl p4)) (some n) [.Assign [.Name z p6] (.Name n p5) p7] p8]) (SP X pins D) X.xe s₃) X.xe s₂) X.xe s₁)=E1
 refine wpAny_execs_cons ?_
 refine wpAny_Expr_any ?_ I.quiet hs1
 refine wpAny_Call_Name_kw (ld_glob I hg hm ?_ d1)
 refine PySem.W.callWith_K (h₀:=X.base) I.ok.mod.kin hk (wpAny_mono (ha E1 p2 pins s σ H _ (I.wish E1) h) (fun us s1 ⟨vs,H1,J1,r,q⟩=>⟨J1.kIn,?_⟩) fun _ _ y=>y) he hpl
 have I1:Inv X pins σ H1 s1:=J1.unwish
 have hl:us.length=ps.length:=by rw [← r.length]; exact F.len _ _ _ _ q
 have hb1:BindsTo s1 fd ⟨us,[]⟩ (ps.zip us):=by have:=hb s1 us I1.kIn (by rw [List.append_nil]; exact hl); rw [List.append_nil] at this; exact this
 refine wpAny_call (codeAny_mono (F.run X.A X.stack s1 H1 ⟨us,[]⟩ us vs _ _ hr I1.env0 hb1 r q) fun rr s' hq=>?_)
 cases rr with
 | ok fl =>
   cases fl with
   | ret u =>
     obtain ⟨v,H2,I2,rv,q2⟩:=I1.after hq
     exact wpAny_execs_nil (wpAny_execs_nil ⟨_,H2,I2,q2⟩)
   | next=>exact False.elim hq
   | brk=>exact False.elim hq
   | cont=>exact False.elim hq
 | error ev =>
   obtain ⟨e,C,dd,T,H2,rfl,os,bare,un,hok,fl,n1,n2,n3,n4,C',tl,eC,xc,hS,q3⟩:=hq
   cases eC
   have I2:Inv X pins σ H2 s':=I1.call' os un hok bare fun b y=>nomatch y
   have n0:H1 e=none:=by
    cases y:H1 e with
    | none=>rfl
    | some o=>obtain ⟨u,y2⟩:=obj_here (I1.hok e o y); rw [n1] at y2; cases y2
   have hfr:X.A.frames=some (X.env :: X.outer):=by rw [← st.1]; exact I.ok.frames
   have sf:s'.heap.FunFrames X.base (X.env :: X.outer):=by have:=I2.stack; rw [st.1] at this; exact this
   show E1 (.ref e) s'
   rw [← hE1]
   refine note_ok hfr sf st.2 fl fun h2 T2 f2 t2 k2=>?_
   have I3:Inv X pins σ H2 { s' with heap:=h2 }:=inv_kp I1 I2 st (by rw [st.1]; exact k2) n1 (fun a y=>by cases y; exact n2) n3 (fun a y=>by cases y; exact n4)
   have t3:s1.heap.get? T2=none:=by
    cases y:s1.heap.get? T2 with
    | none=>rfl
    | some o =>
      by_cases y3:∃ u,H1 T2=some u
      · obtain ⟨o',y4⟩:=un.there T2 o y (by simp)
        rw [t2] at y4; cases y4
      · obtain ⟨o',y4⟩:=un.there T2 o y (by simp)
        rw [t2] at y4; cases y4
   have t4:H2 T2=none:=by
    cases y:H2 T2 with
    | none=>rfl
    | some o=>obtain ⟨u,y2⟩:=obj_here (hok T2 o y); rw [t2] at y2; cases y2
   refine land_ok (s:={ s' with heap:=h2 }) f2 fun h3 f3 k3=>?_
   have up:∀ {a b:Heap} {T:Addr},Kp [] e (some T) a b→Kp (frs X.stack) e (some T) a b:=fun {a b T} kk=>⟨fun b o q n1 n2 _=>kk.keep b o q n1 n2 (by simp),fun b o q _ n2 n3=>⟨o.slots,kk.keep b o q n2 n3 (by simp)⟩⟩
   have I4:Inv X pins σ H2 { s' with heap:=h3 }:=inv_kp (s:={ s' with heap:=h2 }) I1 I3 st (up k3) n1 (fun a y=>by cases y; exact t3) n3 (fun a y=>by cases y; exact t4)
   obtain ⟨oe,vs3,oe1,oe2,oe3,oe4,_⟩:=id f3
   refine wpAny_handleBy_cons (codeAny_handlers_test ?_) (by intro y; cases y)
   refine ld_glob (X:=hdX X e) (s:={ s' with heap:=h3 }) (inv_hd I4 e) hgS hmS ?_ d2
   refine matches_exc (s:={ s' with heap:=h3 }) I4.kIn xc xs hS oe1 oe2 ?_
   refine codeAny_handlers_suite_as ?_
   refine land_ok (s:={ s' with heap:=h3 }) f3 fun h4 f4 k4=>?_
   have I5:Inv X pins σ H2 { s' with heap:=h4 }:=inv_kp (s:={ s' with heap:=h3 }) I1 I4 st (up k4) n1 (fun a y=>by cases y; exact t3) n3 (fun a y=>by cases y; exact t4)
   obtain ⟨of,vs4,of1,of2,of3,of4,_⟩:=id f4
   have I6:Inv X pins σ (upd H2 e (.ext (exA C e dd))) { s' with heap:=h4 }:=inv_track (s:={ s' with heap:=h4 }) I1 I5 n1 hex n3 ⟨⟨of,vs4,of1,of2,of3,of4⟩,⟨_,of1⟩,fun g1 g2 ⟨o,v,y1,y2⟩ kk=>⟨o,v,kk _ y1,y2⟩⟩
   refine store_ok I6 hN hjn (.inl ln) (v:=.ref e) rfl (fun s5 I7=>?_) (.inl (hall _))
   have jl:jn < (σ.set jn (some (V.ref e))).length:=by rw [List.length_set,I.len]; exact (List.getElem?_eq_some_iff.mp hjn).1
   have ev:(σ.set jn (some (V.ref e)))[jn]?=some (some (.ref e)):=by rw [List.getElem?_set_self (by rw [List.length_set] at jl; exact jl)]
   have pw:=ps_set (X:=(hdX X e).nox) (pos:=p7) (pos':=p6) (e:=.Name n p5) hN hiz lz (pe_var (X:=(hdX X e).nox) (i:=jn) hjn (.inl ln) d3 d4) hs2 (.inl (hall _))
   refine wpAny_execs_cons (wpAny_mono (pw pins s5 _ _ { nx:=fun σ' H'=>σ'=(σ.set jn (some (.ref e))).set iz (some (.ref e))∧H'=upd H2 e (.ext (exA C e dd)),rt:=fun _ _=>False } ((inv_hd I7 e).wish _) ⟨_,ev,rfl,rfl⟩) (fun fl s6 y=>?_) fun ev s6 y=>?_)
   · cases fl with
     | next =>
       obtain ⟨σ7,H7,I8,rfl,rfl⟩:=y
       refine wpAny_execs_nil ?_
       show wpAny _ _ _ _ _ _
       refine goes_ok (inv_unhd I.ok I8.unwish) hN hjn ln fun s8 I9=>⟨_,_,I9,q3 e n0 n3⟩
     | ret u=>obtain ⟨_,_,_,_,_,y⟩:=y; exact y.elim
     | brk=>obtain ⟨_,_,_,y⟩:=y; exact y.elim
     | cont=>obtain ⟨_,_,_,y⟩:=y; exact y.elim
   · exact False.elim y
end
section
variable {X:Cx} {Z:Zc} {S f:Addr} {ts:List Addr} {fd:FuncData} {ps:List Str} {k iz jn ia:Nat} {z n cl fx y:Str} {p1 p2 p3 p4 p5 p6 p7 p8 p9 pos:Pos} {rest:List Stmt} {G:WT→List T→(Rt→Prop)→Prop} {g1:FS} {g2:Addr→Addr→Int→FS} {g3:Addr→Addr→FS}
end
section
variable {X:Cx} {Z:Zc} {W:WT} {f:Addr} {fd:FuncData} {ps:List Str} {k n:Nat} {x:Str} {g:FA}
end
section
variable {X:Cx} {Z:Zc} {e C:Addr} {dd:Option Addr} {pp:Option Int}
def fIsiK (K:PySem.W.Frag) (i:Nat) (e C:Addr) (c:Value):FP:=fun ρ Q=>ρ[i]?=some (some (.ob e,false))∧∃ b,PySem.W.kitOne K (.ref C) c=some b∧Q (.vw (.bl b))
theorem vp_isiK (i:Nat) {x:Str} {ce:Expr} {cv:V} {c:Value} {p1 p2 pos:Pos} (xz:Ex X.K Z.H0 e C dd pp) (hP:Z.P=[]) (rc:∀ u,RelV cv u→u=c) (hg:Gl X "isinstance") (hm:X.mg "isinstance" = none) (hc:PE X ce (tC cv))
  (hN:X.N[i]?=some x:=by rfl) (hv:Vis X.env.scope x:=by first | exact Or.inl rfl | exact Or.inr (Or.inl rfl) | exact Or.inr (Or.inr rfl)) (hd:(x == ("__debug__" : Str))=false:=by decide) (hcd:(x == ("__classdict__" : Str))=false:=by decide)
  (hs1:starEach [.Name x p1,ce] X.env=(false,eval (.Name x p1) X.env) :: starEach [ce] X.env:=by rfl) (hs2:starEach [ce] X.env=(false,eval ce X.env) :: starEach [] X.env:=by rfl) (hpl:(backTo pos (starEach [ce] X.env)).any (·.1)=false:=by rfl) :
  VP X Z (.Call (.Name "isinstance" p2) [.Name x p1,ce] [] pos) (fIsiK X.K i e C c):=.mk fun tm pins s σ H Q I ⟨ρ,O,q,E,⟨h1,b,hk,h2⟩,k⟩ =>
 (vp_isi i xz hP rc hk hg hm hc hN hv hd hcd hs1 hs2 hpl) tm pins s σ H Q I ⟨ρ,O,q,E,⟨h1,h2⟩,k⟩
end
end EX
namespace CLO
open PySem PySem.Spec PySem.Calls PyProof.Rows L2 VT EX
def Itv (K:PySem.W.Frag) (a:Addr) (n:Nat):It :=
 ⟨fun i H=>∃ xs x,SqL K H a xs∧xs.length=n∧i < n∧xs[n - 1 - i]?=some x,fun i H x H'=>H'=H∧∀ xs,SqL K H a xs→xs[n - 1 - i]?=some x,fun i H=>∃ xs,SqL K H a xs∧xs.length=n∧i=n⟩
theorem turn_rev {P:Program} {w:World} {K:PySem.W.Frag} {tg:Expr} (a it:Addr) (n:Nat):Turn P w K tg (Itv K a n) [it] it (fun i h=>h.IsRevIter it a ((n:Int) - 1 - (i:Int))) where
 mem:=by simp
 obj:=fun i h st b hb=>by
  have e:b=it:=by simpa using hb
  subst e
  obtain ⟨o,e,c,d⟩:=st
  exact ⟨o,e,fun v z=>by rw [d] at z; cases z⟩
 keep:=fun i h h' st k=>st.at fun o e=>k it (by simp) o e
 item:=by
  intro X hP hw hK hc i pins s σ H E I hf st hg
  subst hP hw hK
  obtain ⟨xs,x,hq,hn,hi,hx⟩:=hg
  obtain ⟨its,rv,p,hz⟩:=I.list hq
  obtain ⟨u,hu,ru⟩:=rv.get hx
  obtain ⟨f0,f1,f2,f3,f4,f5⟩:=hf it (by simp)
  have e1:(n:Int) - 1 - (i:Int)=((n - 1 - i:Nat):Int):=by omega
  rw [e1] at st
  refine wpAny_pyNext_rev_item st p.isList (x:=u) (by simpa using hu) fun h' st' sb=>?_
  have I1:Inv X pins σ H { s with heap:=h' }:=I.turned (t':=s.toks) (fun b o hb e=>(sb.2 b hb).trans e) f0 f1 f3 f4 f5
  obtain ⟨o,e,c,d⟩:=id st'
  have e2:((n - 1 - i:Nat):Int) - 1=(n:Int) - 1 - ((i+1:Nat):Int):=by omega
  rw [e2] at st'
  exact ⟨u,rfl,go_of (s:={ s with heap:=h' }) e c d (by decide) ⟨x,H,I1,ru,⟨rfl,fun ys hy=>by rw [I.list_inj hy hq]; exact hx⟩,st',fun b hb=>(hf b hb).1⟩⟩
 done:=by
  intro X hP hw hK hc i pins s σ H E I hf st hg
  subst hP hw hK
  obtain ⟨xs,hq,hn,rfl⟩:=hg
  obtain ⟨f0,f1,f2,f3,f4,f5⟩:=hf it (by simp)
  have e1:(i:Int) - 1 - (i:Int) = -1:=by omega
  rw [e1] at st
  exact wpAny_pyNext_rev_end (I.ok.hd hc) st fun h' eb=>⟨rfl,I.turned (t':=s.toks) (fun b o hb e=>eb b o hb e) f0 f1 f3 f4 f5⟩
 self:=fun _ _ _ _ _ st h=>wpAny_pyIter_revIter st h
theorem b_reversed':bootBuiltins "reversed" = some (.type "reversed"):=by decide +kernel
section
variable {X:Cx} {Z:Zc} {tg l:Expr} {f:FE} {p pos:Pos}
def iRev (K:PySem.W.Frag) (ta:TA):TI:=fun σ H R=>ta σ H fun vs H1=>∃ a xs,vs=[.ref a]∧SqL K H1 a xs∧R (Itv K a xs.length) H1
theorem pi_rev {ta:TA} (hg:Gl X "reversed") (hm:X.mg "reversed" = none) (ha:PA X [l] ta) (hs:starEach [l] X.env=[(false,eval l X.env)]:=by rfl):PI X tg (.Call (.Name "reversed" p) [l] [] pos) (iRev X.K ta):=by
 intro pins s σ H R I h
 refine Call_ (ld_blt I hg hm b_reversed' (PyProof.Rows.callWith_type1 (thn (ha pos pins s σ H _ I h) fun us s1 ⟨vs,H1,I1,r1,a,xs,e,hq,q⟩=>?_) hs rfl))
 subst e
 cases r1 with
 | cons r rr =>
   cases rr
   cases r
   obtain ⟨its,rv,pl,hz⟩:=I1.list hq
   refine call_reversed_list pl.isList ?_
   have hsz:((its.toArray.size:Nat):Int) - 1=(xs.length:Int) - 1 - ((0:Nat):Int):=by rw [List.size_toArray,rv.length]; omega
   have st:(s1.heap.push (revObj a ((its.toArray.size:Int) - 1))).IsRevIter s1.heap.objs.size a ((xs.length:Int) - 1 - ((0:Nat):Int)):=by
    rw [hsz]
    exact ⟨_,Heap.get?_push_size _ rfl,rfl,rfl⟩
   refine wpAny_pyIter_revIter st ⟨s1.heap.objs.size,[s1.heap.objs.size],_,_,H1,rfl,I1.kept fun b o e=>Heap.get?_push_of_some _ e,turn_rev a _ _,st,fun b hb=>?_,q⟩
   have e:b=s1.heap.objs.size:=by simpa using hb
   subst e
   exact I1.fpOk (Nat.le_refl _) (I1.hok.fresh (Nat.le_refl _))
theorem wk_rev {K:PySem.W.Frag} {a:Addr} {ts:List T}:Wk K (Itv K a ts.length) [(.lst ts,.ref a)] ts.reverse:=fun H A hA h i=>by
 have h:=h _ List.mem_cons_self
 obtain ⟨b,vs,e,l,q⟩:=h
 cases e
 have hl:=q.length
 rw [List.length_reverse]
 refine ⟨fun hi=>⟨vs,vs[ts.length - 1 - i]'(by omega),l.sq,hl,hi,by simp⟩,fun hi=>⟨vs,l.sq,hl,hi.symm⟩,fun t ht x H' y=>?_⟩
 obtain ⟨rfl,y⟩:=y
 have hi:i < ts.length:=by have:=(List.getElem?_eq_some_iff.mp ht).1; rw [List.length_reverse] at this; exact this
 rw [List.getElem?_reverse hi] at ht
 obtain ⟨v,e1,e2⟩:=q.get ht
 have:=y vs l.sq
 rw [e1] at this
 cases this
 exact ⟨Same.refl _,e2⟩
def fRevI (f:FE):FI:=fun ρ Q=>f ρ fun t=>∃ ts,t = .lst ts∧Q ts.reverse
theorem vi_rev (hg:Gl X "reversed") (hm:X.mg "reversed" = none) (h:VE X Z l f) (hs:starEach [l] X.env=[(false,eval l X.env)]:=by rfl):VI X Z tg (.Call (.Name "reversed" p) [l] [] pos) (fRevI f):=.mk fun tm=>PI.weak (pi_rev hg hm (pa_cons (h tm) pa_nil hs) hs) fun σ H R ⟨ρ,O,q,I,hf,k⟩ =>
 ⟨ρ,O,_,I,hf,fun t ⟨ts,et,hq⟩ v H' s a=>by
   subst et
   have a0:=a
   simp only [At] at a
   obtain ⟨p,vs,rfl,l,al⟩:=a
   have:=k _ hq (Itv X.K p ts.length) H' _ s (fun p hp=>by rw [List.mem_singleton.mp hp]; exact a0) wk_rev
   rw [← al.length] at this
   exact ⟨p,vs,rfl,l.sq,this⟩⟩
end
section
variable {X:Cx} {Z:Zc} {W:WT} {C:Addr} {x:Str}
theorem vs_raiseC {y:Str} {j:Nat} {p1 np cpos pos:Pos} (hw:Wsh X Z W) (x0:X0 X.K X.mg x C) (hg:Gl X x) (hdb:(x == ("__debug__" : Str))=false:=by decide)
  (he:starEach [.Constant (.str y) j p1] X.env=(false,eval (.Constant (.str y) j p1) X.env) :: starEach [] X.env:=by rfl) (hpl:(backTo cpos (starEach [] X.env)).any (·.1)=false:=by rfl) :
  VS X Z (.Raise (some (.Call (.Name x np) [.Constant (.str y) j p1] [] cpos)) none pos) (gRaise0 W C):=.mk fun tm=>PS.weak (ps_raise hw.calm (pe_mk0 x0 hg (pa_cons pe_str pa_nil he) hdb he hpl)) fun D σ H ⟨ρ,O,d,I,hW,F⟩=>by
 refine ⟨_,rfl,fun e n1=>?_⟩
 obtain ⟨tl,xc⟩:=x0.xc
 refine ⟨e,C,none,tl,rfl,xc,upd_same,fun pins s J J2 fl=>?_⟩
 have sm:Same Z.H0 H:=keep0 hw.P0 I
 have z0:Z.H0 e=none:=sm.free n1
 refine hw.xe pins σ _ s e C none none none J2 fl del_same (fun _ z=>nomatch z) ?_ (fun _ z=>nomatch z) (fun b o z=>?_) rfl hW
 · cases q2:X.s₀.heap.get? e with
   | none=>rfl
   | some o =>
     have:=J.base.free e o q2 (by rw [← hw.H0]; exact z0) (by rw [hw.ex]; simp)
     rw [upd_same] at this; cases this
 · have z1:=sm b o z
   have b1:b≠e:=fun y=>by rw [y,n1] at z1; cases z1
   rw [del_ne b1,upd_ne b1]
   exact z1
end
section
variable {X:Cx}
theorem call_bool1:CallR X (.type "bool") (fun xs H Q=>∃ b,xs=[.bl b]∧Q (.bl b) H):=by
 rintro pins s σ H xs us Q I r ⟨b,rfl,q⟩
 obtain ⟨u,rfl,ru⟩:=vals1 r
 cases ru
 exact call_bool_bool ⟨.bl b,H,I,rfl,q⟩
def pBool1 (ts:List T) (q:Rt→Prop):Prop:=∃ b,ts=[.bl b]∧q (.vw (.bl b))
theorem callT_bool1 {K:PySem.W.Frag}:CallT K (fun xs H Q=>∃ b,xs=[.bl b]∧Q (.bl b) H) pBool1:=by
 rintro Z tm O ρ σ H ts vs q Q I h ⟨b,rfl,hq⟩ k
 obtain ⟨v,rfl,a⟩:=paired1 h
 exact ⟨b,by rw [a.bl],k _ hq _ H (Same.refl H) ⟨I,at_bl⟩⟩
end
end CLO
namespace VT
open PySem PySem.Spec PyProof.Rows L2
def gNever:FS:=fun _ _=>False
theorem vss_never {X:Cx} {Z:Zc} {ss:List Stmt}:VSs X Z ss gNever:=.mk fun tm=>fun pins s σ H D I h=>by
 obtain ⟨_,_,_,_,q,_⟩:=h
 exact q.elim
end VT
namespace Gen
open PySem L2 VT
open K01 (letters)
end Gen
namespace Gen
open PySem L2 VT
end Gen
namespace Gen
open PySem L2 VT
open K01 (letters inL nameS)
end Gen
namespace K76
open PySem L2 VT CLO
def top (i:Nat):Stmt:=PySem.Challenge.pw_slicewise_k76_the_fewest_parts.main.body.getD i (.Pass ⟨0,0,0,0⟩)
abbrev s_copied:Stmt:=top 1
abbrev s_fewest:Stmt:=top 14
abbrev s_came_of_parts:Stmt:=top 15
abbrev s_is_wanted:Stmt:=top 16
abbrev s_left_of_round:Stmt:=top 17
abbrev s_cell_at:Stmt:=top 19
abbrev s_part:Stmt:=top 20
abbrev s_coming:Stmt:=top 21
abbrev s_wanting:Stmt:=top 22
abbrev s_refused:Stmt:=top 23
abbrev s_round:Stmt:=top 24
abbrev s_right:Stmt:=top 25
abbrev s_law:Stmt:=top 26
structure MgA (mg:Str→Option Value):Prop where
 isinstance:mg "isinstance" = none
 list:mg "list" = none
 tuple:mg "tuple" = none
 dict:mg "dict" = none
 bool:mg "bool" = none
 len:mg "len" = none
 range:mg "range" = none
 reversed:mg "reversed" = none
 sum:mg "sum" = none
 min:mg "min" = none
 zip:mg "zip" = none
theorem le8 {n:Nat} (h:n≤1000):n≤sizeLine:=Nat.le_trans h (by decide +kernel)
def Lv:Nat→T→Prop
 | 0,_=>False
 | n+1,t=>(∃ i,t = .int i)∨∃ l,t = .lst l∧l.length≤100∧∀ u∈l,Lv n u
def cpR:T→Rt
 | .lst l=>.fr (.lst l)
 | t=>.vw t
def gCop (n:Nat) (ts:List T) (q:Rt→Prop):Prop:=∃ t,ts=[t]∧Lv n t∧q (cpR t)
theorem cpR_t (t:T):(cpR t).t=t:=by cases t <;> rfl
section
variable {P:Program} {w:World} {K:PySem.W.Frag} {mg:Str→Option Value} {base:Heap}
abbrev n_copied:List Str:=["thing"]
theorem sc_copied:FnScope n_copied ["thing"] (defScope s_copied):=⟨rfl,rfl,rfl,by decide +kernel,rfl,by decide +kernel,by decide +kernel⟩
theorem nd_copied_c0:(n_copied ++ (["part"]:List Str)).Nodup:=by decide +kernel
theorem ok_copied0 {f:Addr} {fd:FuncData} (D:Df K mg "copied" s_copied ["thing"] f fd):Cal P w K mg base "copied" ["thing"] 1 (spP K 1 (gCop 0)) :=
 D.cal (fnP D.F sc_copied rfl fun cdv A outer s H E Ox hr ts q hG=>by obtain ⟨_,_,h,_⟩:=hG; exact h.elim)
theorem ok_copiedS {n d:Nat} {f:Addr} {fd:FuncData} (D:Df K mg "copied" s_copied ["thing"] f fd) (M:MgA mg) (C:Cal P w K mg base "copied" ["thing"] d (spP K 1 (gCop n))):Cal P w K mg base "copied" ["thing"] (d+1) (spP K 1 (gCop (n+1))):=by
 obtain ⟨f_copied,fd_copied,m_copied,k_copied,b_copied,F_copied⟩:=C
 refine D.cal (fnP D.F sc_copied rfl fun cdv A outer s H E Ox hr ts q hG=>?_)
 have nd:=sc_copied.nd
 have hu:=Room.u101 hr
 have np:∀ {i:Nat},NotPar ⟨H,[],Ox⟩ i:=np0
 have npf:∀ {is:List Nat},∀ i∈is,NotPar ⟨H,[],Ox⟩ i:=fun i _=>np0
 refine ⟨_,(vss_cons (vs_if (vc_val (vp_inst inst_list (by rfl) M.isinstance (by rfl) M.list b_list (vr_var 0)))
    (vss_one (vs_ret (VP.vx (vp_comp (ts:=["part"]) rfl (by rfl) (vi_seq (ve_var 0)) (fun _ _ _ _ _ _=>(vg_name (i:=1) nd_copied_c0 rfl (Or.inl rfl) np)) (fun _ _ _ _ _ _=>vcs_nil) (fun _ _ _ _ _ _=>(VP.ve (vp_call F_copied (hr.mono (by omega)) (by rfl) m_copied k_copied b_copied (va_cons (ve_var 1) va_nil))))))))
    vss_nil)
   (vss_cons (vs_if (vc_val (vp_inst inst_tuple (by rfl) M.isinstance (by rfl) M.tuple b_tuple (vr_var 0)))
     vss_never
     vss_nil)
   (vss_cons (vs_if (vc_val (vp_inst inst_dict (by rfl) M.isinstance (by rfl) M.dict b_dict (vr_var 0)))
     vss_never
     vss_nil)
   (vss_one (vs_ret (VP.vx (VE.vp (ve_var 0)))))))),fun _=>?_⟩
 obtain ⟨t,rfl,hL,hq⟩:=hG
 rcases hL with ⟨i,rfl⟩ | ⟨l,rfl,hl,hu2⟩
 · exact ⟨rfl,rfl,rfl,hq⟩
 · refine ⟨rfl,rfl,le8 (by omega),?_⟩
   have e:l=l.map id:=(List.map_id l).symm
   show wComp _ _ _ _ l _
   rw [e]
   refine wComp_mapL (f:=id) (u:=id) (fun u hu r hr=>?_) ?_
   · exact ⟨rfl,u,rfl,hu2 u hu,by show r (cpR u).t; rw [cpR_t]; exact hr⟩
   · rw [List.map_id]; exact hq
theorem ok_copied {f:Addr} {fd:FuncData} (D:Df K mg "copied" s_copied ["thing"] f fd) (M:MgA mg):Cal P w K mg base "copied" ["thing"] 4 (spP K 1 (gCop 3)):=ok_copiedS D M (ok_copiedS D M (ok_copiedS D M (ok_copied0 D)))
end
end K76
namespace CLO
open PySem PySem.Spec PyProof.Rows L2 VT
section
variable {X:Cx}
def rInL (K:PySem.W.Frag):R2:=fun x y H Q=>∃ t us p vs,y = .ref p∧SqL K H p vs∧At K H [] t x∧AtL K H [] us vs∧plainT t=true∧plainTs us=true∧deps us≤100∧Q (.bl (us.any fun u=>eqT u t)) H
theorem op_inL (hu:X.A.units+101 < cLine):OpR X (compareOp .In) (rInL X.K):=by
 intro pins s σ H x y v u Q I rx ry ⟨t,us,p,vs,e,sq,h1,h2,p1,p2,hd,hq⟩
 subst e
 cases ry
 obtain ⟨its,r,pl,_⟩:=I.list sq
 have l1:=h2.length
 have l2:=r.length
 have key:∀ {i:Nat} {a:Value},its[i]?=some a→∃ u w,us[i]?=some u∧At X.K H [] u w∧RelV w a:=by
  intro i a hi
  have hl:i < its.length:=(List.getElem?_eq_some_iff.mp hi).1
  have e1:us[i]?=some (us[i]'(by lia)):=by simp
  obtain ⟨w,a1,a2⟩:=h2.get e1
  obtain ⟨b,c1,c2⟩:=r.get a1
  rw [hi] at c1
  cases c1
  exact ⟨_,w,e1,a2,c2⟩
 have he:∀ {i:Nat} {a:Value} {u:T},its[i]?=some a→us[i]?=some u→@decide (∃ (j:Nat) (u':T),its[j]?=some a∧us[j]?=some u'∧eqT u' t=true) (Classical.propDecidable _)=eqT u t:=by
  intro i a u' hi hu'
  cases q:eqT u' t with
  | true=>exact @decide_eq_true _ (Classical.propDecidable _) ⟨i,u',hi,hu',q⟩
  | false =>
    refine @decide_eq_false _ (Classical.propDecidable _) ?_
    rintro ⟨j,u2,hj,hj',q2⟩
    obtain ⟨_,w1,g1,g2,g3⟩:=key hi
    obtain ⟨_,w2,k1,k2,k3⟩:=key hj
    rw [hu'] at g1
    rw [hj'] at k1
    cases g1
    cases k1
    cases g3.inj k3
    have:=At.inj I (plains_get p2 hu') (plains_get p2 hj') g2 k2
    rw [this,q2] at q
    cases q
 refine SeqAt.in_listAt (fun a=>@decide (∃ (j:Nat) (u':T),its[j]?=some a∧us[j]?=some u'∧eqT u' t=true) (Classical.propDecidable _)) pl.isList (fun a ha=>?_) ⟨.bl _,H,I,rfl,?_⟩
 · obtain ⟨i,hi⟩:=List.mem_iff_getElem?.mp (show a∈its by simpa using ha)
   obtain ⟨u',w,g1,g2,g3⟩:=key hi
   show SeqAt.EqAt _ _ _ _ _
   rw [he hi g1]
   exact eqAt_T I 100 u' t w x a v X.A.in1 (Nat.le_trans (deps_le g1) hd) (by rw [in1_units]; lia) (plains_get p2 g1) p1 g2 h1 g3 rx
 · have:(its.toArray.any fun a=>@decide (∃ (j:Nat) (u':T),its[j]?=some a∧us[j]?=some u'∧eqT u' t=true) (Classical.propDecidable _))=us.any fun u=>eqT u t:=by
    rw [Bool.eq_iff_iff,show (its.toArray.any fun a=>@decide (∃ (j:Nat) (u':T),its[j]?=some a∧us[j]?=some u'∧eqT u' t=true) (Classical.propDecidable _))=its.any fun a=>@decide (∃ (j:Nat) (u':T),its[j]?=some a∧us[j]?=some u'∧eqT u' t=true) (Classical.propDecidable _) by simp,List.any_eq_true,List.any_eq_true]
    constructor
    · rintro ⟨a,ha,q⟩
      obtain ⟨i,hi⟩:=List.mem_iff_getElem?.mp ha
      obtain ⟨u',w,g1,g2,g3⟩:=key hi
      exact ⟨u',List.mem_iff_getElem?.mpr ⟨i,g1⟩,(he hi g1).symm.trans q⟩
    · rintro ⟨u',ha,q⟩
      obtain ⟨i,hi⟩:=List.mem_iff_getElem?.mp ha
      have hl:i < us.length:=(List.getElem?_eq_some_iff.mp hi).1
      have e1:its[i]?=some (its[i]'(by lia)):=by simp
      exact ⟨_,List.mem_iff_getElem?.mpr ⟨i,e1⟩,(he e1 hi).trans q⟩
   rw [this]
   exact hq
def pInL (x y:T) (q:Rt→Prop):Prop:=match y with
 | .lst us=>plainT x=true∧plainTs us=true∧deps us≤100∧q (.vw (.bl (us.any fun u=>eqT u x)))
 | _=>False
theorem opT_inL {K:PySem.W.Frag}:OpT K (rInL K) pInL:=by
 intro Z tm O ρ σ H x y v w q Q I h1 h2 h k
 unfold pInL at h
 split at h
 · obtain ⟨f1,f2,f3,h⟩:=h
   obtain ⟨a,vs,rfl,q1,q2⟩:=h2.lst
   exact ⟨x,_,a,vs,rfl,q1,h1.bare,AtL.fewer (fun _ z=>absurd z List.not_mem_nil) q2,f1,f2,f3,k _ h _ H (Same.refl H) ⟨I,at_bl⟩⟩
 · exact h.elim
end
section
variable {X:Cx} {Z:Zc} {a b e:Expr} {fa fb:FE} {pos:Pos}
theorem vp_inL (hu:X.A.units+101 < cLine) (ha:VR X Z a fa) (hb:VR X Z b fb) (hm:behindInMarks .In b=false:=by rfl):VP X Z (.Compare a [.In] [b] pos) (f2 fa fb pInL):=vp_cmp (op_inL hu) opT_inL ha hb hm
end
end CLO
namespace VT
open PySem PySem.Spec PyProof.Rows L2
end VT
namespace VT
open PySem PySem.Spec PyProof.Rows L2
section
variable {X:Cx}
end
end VT
namespace CLO
open PySem PySem.Spec PyProof.Rows L2 VT
section
variable {prog:Program} {w:World} {A:Around} {R:Result→Shared→Prop} {I:Addr} {fp wr:List Addr} {n:Nat} {P:Nat→Value→Prop} {St:Nat→Heap→Prop}
abbrev oS (xs:Array Value) (c:Nat):Obj:={ cls:=.type "list",dict:=none,data:=.seq xs c,slots:=#[] }
theorem minD_loop (W:Walks prog w A.in1 I fp wr n P St) {bt:Nat→Nat→Bool} (hcmp:CmpOf prog w A.in1 .Lt P bt) {S:Addr} (hSf:S∉fp) {kw:List (Str×Value)} :
  ∀ (k j:Nat) (s:Shared) (vb:Value) (c:Nat),n=j+1+k→St (j+1) s.heap→P (argBest bt j) vb→s.heap.get? S=some (oS #[vb,vb] c) →
  (∀ v h' tk,P (argBest bt (j+k)) v→(∀ b o,b∉wr→b≠S→s.heap.get? b=some o→h'.get? b=some o)→R (.ok (.ret v)) { s with heap:=h',toks:=tk }) →
  codeAny (model prog w) A (.builtin "min.loop" ⟨[.ref I,.none,.ref S],kw⟩) R s:=by
 have hSw:S∉wr:=fun h=>hSf (W.sub _ h)
 have nm:(toString "min" ++ toString ".loop" : String)="min.loop":=by decide
 intro k
 induction k with
 | zero =>
   intro j s vb c hn hst hP hS hR
   refine codeAny_builtin F.entry_min_loop ?_
   rw [Around.under_plainId F.plain_min_loop _]
   show wpAny _ A.in1 (seqItems? (.ref S) >>= _) _ _ s
   refine wpAny_bind (wpAny_seqItems hS rfl ?_)
   show wpAny _ A.in1 (tryCatch (pyNext (.ref I)) _ >>= _) _ _ s
   refine wpAny_bind (wpAny_tryCatch (W.done s _ _ (by rw [hn]; exact hst) fun h' tk hk=>?_))
   show wpAny _ A.in1 (updateSeq S (fun _=>#[]) >>= _) _ _ _
   refine wpAny_bind (wpAny_updateSeq (hk S _ hSw hS) rfl (wpAny_bind (wpAny_letGo (wpAny_pure ?_))))
   exact hR vb _ tk hP fun b o n1 n2 e=>(Heap.get?_update_other _ _ (Ne.symm n2)).trans (hk b o n1 e)
 | succ k ih =>
   intro j s vb c hn hst hP hS hR
   refine codeAny_builtin F.entry_min_loop ?_
   rw [Around.under_plainId F.plain_min_loop _]
   show wpAny _ A.in1 (seqItems? (.ref S) >>= _) _ _ s
   refine wpAny_bind (wpAny_seqItems hS rfl ?_)
   show wpAny _ A.in1 (tryCatch (pyNext (.ref I)) _ >>= _) _ _ s
   refine wpAny_bind (wpAny_tryCatch (W.item (j+1) s _ _ (by omega) hst fun v h' tk hv hst' hk=>?_))
   have hS':=hk S _ hSw hS
   show wpAny _ A.in1 (tryCatch (holding [v,v] (richCompare .Lt v vb >>= _)) _ >>= _) _ _ _
   refine wpAny_bind (wpAny_tryCatch (wpAny_holding (wpAny_bind (hcmp (j+1) (argBest bt j) v vb _ _ _ hv hP ?_))))
   refine wpAny_bind (wpAny_holding (wpAny_truthy_bool (wpAny_bind (wpAny_letGo (wpAny_pure ?_)))))
   have hj:j+(k+1)=j+1+k:=by omega
   cases hb:bt (j+1) (argBest bt j) with
   | true =>
     rw [if_pos rfl]
     refine wpAny_bind (wpAny_updateSeq hS' rfl (wpAny_bind (wpAny_letGo ?_)))
     rw [nm]
     refine wpAny_pure ⟨plainId_quiet F.plain_min_loop _,ih (j+1) _ v _ (by omega) (W.frame _ _ _ hst' fun b hbf o e=>(Heap.get?_update_other _ _ fun h:S=b=>hSf (by rw [h]; exact hbf)).trans e) (by rw [argBest,hb,if_pos rfl]; exact hv) (Heap.get?_update_self _ hS' rfl) fun v' h2 tk2 hv' hk2=>?_⟩
     exact hR v' h2 tk2 (by rw [hj]; exact hv') fun b o n1 n2 e=>hk2 b o n1 n2 ((Heap.get?_update_other _ _ (Ne.symm n2)).trans (hk b o n1 e))
   | false =>
     rw [if_neg Bool.false_ne_true]
     refine wpAny_bind (wpAny_letGo ?_)
     rw [nm]
     refine wpAny_pure ⟨plainId_quiet F.plain_min_loop _,ih (j+1) _ vb c (by omega) hst' (by rw [argBest,hb,if_neg Bool.false_ne_true]; exact hP) hS' fun v' h2 tk2 hv' hk2=>?_⟩
     exact hR v' h2 tk2 (by rw [hj]; exact hv') fun b o n1 n2 e=>hk2 b o n1 n2 (hk b o n1 e)
theorem minD_first (W:Walks prog w A.in1 I fp wr n P St) {bt:Nat→Nat→Bool} (hcmp:CmpOf prog w A.in1 .Lt P bt) {S:Addr} (hSf:S∉fp) {q:Str} {d:Value} {s:Shared} {c:Nat} (hst:St 0 s.heap)
  (hS:s.heap.get? S=some (oS #[] c)) (hR:∀ v h' tk,(n=0→v=d)→(0 < n→P (argBest bt (n - 1)) v)→(∀ b o,b∉wr→b≠S→s.heap.get? b=some o→h'.get? b=some o)→R (.ok (.ret v)) { s with heap:=h',toks:=tk }) :
  codeAny (model prog w) A (.builtin "min.loop" ⟨[.ref I,.none,.ref S],[(q,d)]⟩) R s:=by
 have hSw:S∉wr:=fun h=>hSf (W.sub _ h)
 have nm:(toString "min" ++ toString ".loop" : String)="min.loop":=by decide
 refine codeAny_builtin F.entry_min_loop ?_
 rw [Around.under_plainId F.plain_min_loop _]
 show wpAny _ A.in1 (seqItems? (.ref S) >>= _) _ _ s
 refine wpAny_bind (wpAny_seqItems hS rfl ?_)
 show wpAny _ A.in1 (tryCatch (pyNext (.ref I)) _ >>= _) _ _ s
 cases hn:n with
 | zero =>
   refine wpAny_bind (wpAny_tryCatch (W.done s _ _ (by rw [hn]; exact hst) fun h' tk hk=>?_))
   show wpAny _ A.in1 (rule _ >>= _) _ _ _
   refine wpAny_bind (wpAny_rule ?_)
   exact wpAny_pure (hR d h' tk (fun _=>rfl) (fun h=>absurd h (by omega)) fun b o n1 _ e=>hk b o n1 e)
 | succ m =>
   refine wpAny_bind (wpAny_tryCatch (W.item 0 s _ _ (by omega) hst fun v h' tk hv hst' hk=>?_))
   have hS':=hk S _ hSw hS
   show wpAny _ A.in1 (updateSeq S (fun _=>#[v,v]) >>= _) _ _ _
   refine wpAny_bind (wpAny_updateSeq hS' rfl ?_)
   rw [nm]
   refine wpAny_pure ⟨plainId_quiet F.plain_min_loop _,minD_loop W hcmp hSf m 0 _ v _ (by omega) (W.frame _ _ _ hst' fun b hbf o e=>(Heap.get?_update_other _ _ fun h:S=b=>hSf (by rw [h]; exact hbf)).trans e) hv (Heap.get?_update_self _ hS' rfl) fun v' h2 tk2 hv' hk2=>?_⟩
   exact hR v' h2 tk2 (fun h=>absurd h (by omega)) (fun _=>by rw [hn,Nat.add_sub_cancel]; rw [Nat.zero_add] at hv'; exact hv') fun b o n1 n2 e=>hk2 b o n1 n2 ((Heap.get?_update_other _ _ (Ne.symm n2)).trans (hk b o n1 e))
theorem args_minD (x d:Value):argsOk "min" ⟨[x],[("default",d)]⟩:=by unfold argsOk; kernel_rfl
theorem call_minW {E:Value→Shared→Prop} {s:Shared} {x d:Value} {Q:Value→Shared→Prop}
  (h:wpAny (model prog w) A.in1 (pyIter x) (fun it s₂=>∃ I fp wr n P St bt,it = .ref I∧Walks prog w A.in1 I fp wr n P St∧St 0 s₂.heap∧(∀ b∈fp,b < s₂.heap.objs.size)∧CmpOf prog w A.in1 .Lt P bt ∧
    ∀ v h' tk,(n=0→v=d)→(0 < n→P (argBest bt (n - 1)) v)→(∀ b o,b∉wr→s₂.heap.get? b=some o→h'.get? b=some o)→Q v { s₂ with heap:=h',toks:=tk }) E s) :
  wpAny (model prog w) A (call (.builtin "min") [x] [("default",d)]) Q E s:=by
 have nm:(toString "min" ++ toString ".loop" : String)="min.loop":=by decide
 refine kmk_tree F.kind_min F.plain_min F.entry_min (args_minD _ _) ?_
 show wpAny _ A.in1 (Builtin.Builtins.bindParams "min" ["key","default"] 0 ⟨[],[("default",d)]⟩ >>= _) _ _ s
 refine wpAny_bind (wpAny_of_eq (show Builtin.Builtins.bindParams "min" ["key","default"] 0 ⟨[],[("default",d)]⟩=pure [none,some d] from rfl) ?_)
 refine wpAny_bind (wpAny_pure ?_)
 refine wpAny_bind (wpAny_mono h (fun it s₂ h₂=>?_) fun _ _ e=>e)
 obtain ⟨I,fp,wr,n,P,St,bt,rfl,W,hst,hfp,hcmp,hQ⟩:=h₂
 refine wpAny_bind (wpAny_newObj_type ?_)
 rw [nm]
 refine wpAny_pure ⟨plainId_quiet F.plain_min_loop _,minD_first W hcmp (S:=s₂.heap.objs.size) (fun hm=>Nat.lt_irrefl _ (hfp _ hm)) (W.frame _ _ _ hst fun b _ o e=>Heap.get?_push_of_some _ e) (Heap.get?_push_size _ rfl) fun v h' tk h0 hP hk=>?_⟩
 exact hQ v h' tk h0 hP fun b o n1 e=>hk b o n1 (Nat.ne_of_lt (Heap.lt_size e)) (Heap.get?_push_of_some _ e)
theorem minD_ints {E:Value→Shared→Prop} {s:Shared} {l:Addr} {xs:Array (Int×Tok)} {d:Value} {Q:Value→Shared→Prop} (hh:A.handled=none) (hl:s.heap.IsList l (intItems xs))
  (h:∀ v h' tk,(xs.size=0→v=d)→(0 < xs.size→(intItems xs)[argBest (fun i j=>decide (numAt xs i < numAt xs j)) (xs.size - 1)]?=some v)→(∀ b o,s.heap.get? b=some o→h'.get? b=some o)→Q v { s with heap:=h',toks:=tk }) :
  wpAny (model prog w) A (call (.builtin "min") [.ref l] [("default",d)]) Q E s:=by
 refine call_minW (iter_intList hl fun s₂ e st hfp hlI=>?_)
 subst e
 have hz:(intItems xs).size=xs.size:=by simp [intItems]
 refine ⟨_,_,_,_,_,_,_,rfl,Walks.list (A:=A.in1) hh _ l hlI (intItems xs),st,hfp,CmpOf.ints_lt (numAt xs) (fun _ _=>intItems_at),fun v h' tk h0 hP hk=>?_⟩
 rw [hz] at h0 hP
 exact h v h' tk h0 hP (old_kept hk)
end
section
variable {X:Cx} {Z:Zc} {a:Expr} {f:FE} {t:TE} {p p2 p3 pos:Pos} {j:Nat}
def tMinD (K:PySem.W.Frag) (t:TE):TE:=fun σ H Q=>t σ H fun v H1=>∃ (p:Addr) (ns:List Int),v = .ref p∧SqL K H1 p (ns.map V.int)∧∀ m,(ns=[]→m=0)→(ns≠[]→m∈ns∧∀ i∈ns,m≤i)→Q (.int m) H1
theorem pe_minD (hc:X.calm=true) (hg:Gl X "min") (hm:X.mg "min" = none) (ha:PE X a t) (hs:starEach [a] X.env=(false,eval a X.env) :: starEach [] X.env:=by rfl)
  (he:backTo pos (starEach [a] X.env)=(false,eval a X.env) :: backTo pos (starEach [] X.env):=by rfl) (hpl:(backTo pos (starEach [a] X.env)).any (·.1)=false:=by rfl) :
  PE X (.Call (.Name "min" p) [a] [⟨some "default",.Constant (.int 0) j p2,p3⟩] pos) (tMinD X.K t):=by
 intro pins s σ H Q I h
 refine wpAny_Call_Name_kw (ld_blt I hg hm b_min ?_ (by decide) (by decide))
 refine PyProof.Rows.callWith_kw (thn (pa_cons ha pa_nil hs pos pins s σ H (fun vs H1=>match vs with
  | [v]=>∃ (p:Addr) (ns:List Int),v = .ref p∧SqL X.K H1 p (ns.map V.int)∧∀ m,(ns=[]→m=0)→(ns≠[]→m∈ns∧∀ i∈ns,m≤i)→Q (.int m) H1
  | _=>False) I h) fun us s1 ⟨vs,H1,I1,r1,q1⟩=>?_) he hpl
 refine PyProof.Rows.kws_cons (wpAny_Constant_int (PyProof.Rows.kws_nil ?_))
 have I1:=I1.tok (s1.toks+1)
 dsimp only at q1
 split at q1
 next v =>
  obtain ⟨pp,ns,rfl,hq,q⟩:=q1
  obtain ⟨u,rfl,rx⟩:=vals1 r1
  cases rx
  obtain ⟨its,rv,pl,hz⟩:=I1.list hq
  have hI:IntsAre its ns:=intsAre_of rv
  obtain ⟨xs,e⟩:=hI.allInts.items
  have hns:ns=xs.toList.map (·.1):=by rw [← hI.numsOf,← nums_intItems,← e]
  have hl:s1.heap.IsList pp (intItems xs):=by rw [← e]; exact pl.isList
  have hz:ns.length=xs.size:=by rw [hns,List.length_map,Array.length_toList]
  refine minD_ints (s:={ s1 with toks:=s1.toks+1 }) (I1.ok.hd hc) hl fun v h' tk h0 hv hk=>?_
  by_cases z:xs.size=0
  · rw [h0 z]
    exact ⟨.int 0,H1,I1.kept hk,⟨_,rfl⟩,q 0 (fun _=>rfl) fun g=>absurd (List.length_eq_zero_iff.mp (hz.trans z)) g⟩
  · obtain ⟨t,rfl⟩:=intItems_at (hv (by omega))
    obtain ⟨h1,h2⟩:=argBest_lt (numAt xs) (xs.size - 1)
    refine ⟨.int _,H1,I1.kept hk,⟨_,rfl⟩,q _ (fun g=>absurd (by rw [← hz,g]; rfl) z) fun _=>⟨?_,fun a ha=>?_⟩⟩
    · rw [hns,numAt_eq]; exact getD_mem (by rw [List.length_map,Array.length_toList]; omega)
    · rw [hns] at ha
      obtain ⟨j,hj,rfl⟩:=mem_getD ha
      rw [List.length_map,Array.length_toList] at hj
      rw [← numAt_eq]; exact h2 j (by omega)
 · exact q1.elim
def fMinD (f:FE):FP:=fun ρ Q=>f ρ fun t=>∃ ns:List Int,t = .lst (ns.map .int)∧∀ m,(ns=[]→m=0)→(ns≠[]→m∈ns∧∀ i∈ns,m≤i)→Q (.vw (.int m))
theorem atL_intsN {K:PySem.W.Frag} {H:Hp} {A:List Addr}:∀ {ns:List Int} {vs:List V},AtL K H A (ns.map T.int) vs→vs=ns.map V.int
 | [],vs,h=>by simpa only [List.map_nil,AtL] using h
 | n :: ns,vs,h=>by
   rw [List.map_cons] at h
   simp only [AtL] at h
   obtain ⟨v,vs',rfl,h1,h2⟩:=h
   simp only [At] at h1
   rw [h1,atL_intsN h2]; rfl
theorem vp_minD (hc:X.calm=true) (hg:Gl X "min") (hm:X.mg "min" = none) (ha:VR X Z a f) (hs:starEach [a] X.env=(false,eval a X.env) :: starEach [] X.env:=by rfl)
  (he:backTo pos (starEach [a] X.env)=(false,eval a X.env) :: backTo pos (starEach [] X.env):=by rfl) (hpl:(backTo pos (starEach [a] X.env)).any (·.1)=false:=by rfl) :
  VP X Z (.Call (.Name "min" p) [a] [⟨some "default",.Constant (.int 0) j p2,p3⟩] pos) (fMinD f) :=
 .mk fun tm=>PE.weak (pe_minD hc hg hm (ha tm) hs he hpl) fun σ H Q ⟨ρ,O,q,I,hf,k⟩=>⟨ρ,O,_,I,hf,fun t ⟨ns,e,h⟩ v H1 s1 a1=>by
  subst e
  obtain ⟨pp,vs,rfl,q1,q2⟩:=a1.lst
  rw [atL_intsN q2] at q1
  exact ⟨pp,ns,rfl,q1,fun m m1 m2=>k _ (h m m1 m2) _ H1 s1 ⟨I.same s1,at_int⟩⟩⟩
end
end CLO
namespace K76
open PySem L2 VT CLO
def nst (s:Stmt):Stmt:=(defBody s).getD 0 (.Pass ⟨0,0,0,0⟩)
def fnS (s:Stmt) (q:Str) (fr:List Str):FnS:=match s with
 | .FunctionDef n a b _ _ _ sc _ _ _=>⟨n,q,a,b,sc,fr⟩
 | _=>⟨"","",defArgs s,[],defScope s,[]⟩
abbrev FC:FnS:=fnS (nst s_coming) "_law_coming.<locals>._law_come" ["_law_spoil","_law_kind"]
abbrev FW:FnS:=fnS (nst s_wanting) "_law_wanting.<locals>._law_wanted" ["_law_parts","_law_number","_law_kind"]
abbrev nC:List Str:=["_law_some","_law_spoil","_law_kind","_law_told"]
abbrev nW:List Str:=["_law_came","_law_parts","_law_number","_law_kind"]
theorem scC:CloScope nC "_law_some" FC:=⟨rfl,rfl,rfl,by decide +kernel,rfl,rfl,by decide +kernel,by decide +kernel,by decide +kernel⟩
theorem scW:CloScope nW "_law_came" FW:=⟨rfl,rfl,rfl,by decide +kernel,rfl,rfl,by decide +kernel,by decide +kernel,by decide +kernel⟩
def minZ:List Int→Int
 | []=>0
 | [a]=>a
 | a :: l=>min a (minZ l)
def comeD (k:Int) (xs:List T):T:=if k=0 then .int ((xs.filterMap fun t=>match t with | .int i=>some i | _=>none).sum) else if k=1 then .int (xs.length:Int) else if k=2 then .lst xs else .int (minZ (xs.filterMap fun t=>match t with | .int i=>some i | _=>none))
structure Pts (k:Int) (xs:List T):Prop where
 k0:0≤k∧k < 4
 l:xs.length≤10
 p:∀ t∈xs,(∃ i,t = .int i∧-10 ^ 40≤i∧i≤10 ^ 40)∨((k=1∨k=2)∧∃ i,t = .lst [.int i])
def gCome (ct:List T) (t:T) (q:List T→Rt→Prop):Prop:=∃ (k sp:Int) (xs:List T),ct=[.int sp,.int k]∧t = .lst xs∧Pts k xs∧∀ us,q us (.vw (comeD k xs))
abbrev vw (t:T):Option (T×Bool):=some (t,false)
inductive C7 (d:VEn) (ρ:En):Prop
 | mk (k sp:Int) (xs y:List T) (hp:Pts k xs) (hρ:ρ=[some (.lst y,true),vw (.int sp),vw (.int k),vw (.lst xs)]) (fin:∀ ρ',d.rt ρ' (.vw (comeD k xs)))
theorem lt10 {n:Nat} (h:n≤10):n < sizeLine:=by simp only [sizeLine]; omega
theorem intsOf_map:∀ ns:List Int,intsOf (ns.map T.int)=some ns
 | []=>rfl
 | n :: ns=>by rw [List.map_cons,intsOf,intsOf_map ns]; rfl
theorem ints_of {k:Int} {xs:List T} (hp:Pts k xs) (h1:k≠1) (h2:k≠2):∃ ns:List Int,xs=ns.map .int∧(xs.filterMap fun t=>match t with | .int i=>some i | _=>none)=ns∧∀ i∈ns,-10 ^ 40≤i∧i≤10 ^ 40:=by
 have p:=hp.p
 clear hp
 induction xs with
 | nil=>exact ⟨[],rfl,rfl,fun _ h=>(nomatch h)⟩
 | cons t xs ih =>
   obtain ⟨ns,e1,e2,e3⟩:=ih fun u hu=>p u (List.mem_cons_of_mem _ hu)
   rcases p t List.mem_cons_self with ⟨i,rfl,hi⟩ | ⟨z,_⟩
   · refine ⟨i :: ns,by rw [e1]; rfl,by rw [List.filterMap_cons]; simp only [e2],fun j hj=>?_⟩
     rcases List.mem_cons.mp hj with rfl | hj
     · exact hi
     · exact e3 j hj
   · rcases z with z | z
     · exact absurd z h1
     · exact absurd z h2
theorem pts_plain {k:Int} {xs:List T} (hp:Pts k xs):plainTs xs=true∧deps xs≤1:=by
 have p:=hp.p
 clear hp
 induction xs with
 | nil=>exact ⟨rfl,Nat.zero_le _⟩
 | cons t xs ih =>
   obtain ⟨e1,e2⟩:=ih fun u hu=>p u (List.mem_cons_of_mem _ hu)
   rw [plainTs,deps,e1]
   rcases p t List.mem_cons_self with ⟨i,rfl,hi⟩ | ⟨_,i,rfl⟩
   · exact ⟨rfl,by simp only [dep]; omega⟩
   · exact ⟨rfl,by simp only [dep,deps]; omega⟩
theorem plain_mem {xs:List T} {x:T} (h:plainTs xs=true) (hx:x∈xs):plainT x=true:=by
 obtain ⟨i,hi⟩:=List.mem_iff_getElem?.mp hx
 exact plains_get h hi
theorem atI_lastT {x:T} {xs:List T}:atI (x :: xs) (-1)=some ((x :: xs).getLast (by simp)):=by
 unfold atI ixN
 rw [if_neg (by decide),if_pos (by simp only [List.length_cons]; omega)]
 rw [Option.bind_some,List.getLast_eq_getElem,List.getElem?_eq_some_iff]
 exact ⟨by simp only [List.length_cons]; omega,by congr 1; simp only [List.length_cons]; omega⟩
theorem and_of {b:Bool} {A B:Prop} (h1:b=true→A) (h2:b=false→B):match (Rt.vw (.bl b)) with
  | .vw (.bl true)=>A
  | .vw (.bl false)=>B
  | _=>False:=by
 cases b with
 | true=>exact h1 rfl
 | false=>exact h2 rfl
theorem minZ_eq:∀ {ns:List Int} {m:Int},(ns=[]→m=0)→(ns≠[]→m∈ns∧∀ i∈ns,m≤i)→m=minZ ns
 | [],m,h,_=>h rfl
 | [a],m,_,h=>by have:=(h (by simp)).1; rw [List.mem_singleton] at this; exact this
 | a :: b :: l,m,_,h=>by
   obtain ⟨h1,h2⟩:=h (by simp)
   have key:∀ l:List Int,l≠[]→minZ l∈l∧∀ i∈l,minZ l≤i:=by
    intro l
    induction l with
    | nil=>intro h; exact absurd rfl h
    | cons a l ih =>
      intro _
      cases l with
      | nil=>exact ⟨by simp [minZ],fun i hi=>by simp at hi; simp [minZ,hi]⟩
      | cons b l =>
        obtain ⟨g1,g2⟩:=ih (by simp)
        show min a (minZ (b :: l))∈a :: b :: l∧∀ i∈a :: b :: l,min a (minZ (b :: l))≤i
        refine ⟨?_,fun i hi=>?_⟩
        · by_cases z:a≤minZ (b :: l)
          · rw [Int.min_eq_left z]; exact List.mem_cons_self
          · rw [Int.min_eq_right (by omega)]; exact List.mem_cons_of_mem _ g1
        · rcases List.mem_cons.mp hi with rfl | hi
          · exact Int.min_le_left _ _
          · exact Int.le_trans (Int.min_le_right _ _) (g2 i hi)
   obtain ⟨g1,g2⟩:=key (a :: b :: l) (by simp)
   exact Int.le_antisymm (h2 _ g1) (g2 _ h1)
def wantD (k n:Int) (ps:List T) (t:T):Bool:=match t with
 | .int i=>if k=0 then decide (n % 9≤i % 9) else if k=1 then decide (n % 12≤i) else decide (i≤n % 8 - 1)
 | .lst xs=>match ps with
   | []=>true
   | p :: ps=>(xs.any fun x=>eqT x p) && xs.any fun x=>eqT x ((p :: ps).getLast (by simp))
 | _=>false
section
variable {P:Program} {w:World} {K:PySem.W.Frag} {mg:Str→Option Value} {base:Heap}
theorem ok_come (M:MgA mg):CloOk P w K mg base 1 FC true gCome:=by
 refine fn_clo (k:=0) scC (fun cl doc pm ctv c u=>rfl) fun A outer s H f c cl as Ox hr ct t q hl hG=>?_
 have nd:=scC.nd
 have hu:=Room.u101 hr
 refine ⟨_,(vss_cons (vs_set (i:=3) nd rfl (Or.inl rfl) (VP.vx (vp_callTy call_list_of callT_list (by rfl) M.list b_list (var_cons (vr_var 0) var_nil))) (np_pz (by decide)))
   (vss_cons (vs_if (vc_eq hu (vr_var 1) (VP.vr vp_int))
     (vss_one (vs_expr (vx_bm0 0 PySem.F.slot_list_clear PySem.F.type_list_clear mt_clear mtT_clear)))
     vss_nil)
   (vss_cons (vs_if (vc_eq hu (vr_var 1) (VP.vr vp_int))
     (vss_cons (vs_expr (vx_bm0 0 PySem.F.slot_list_reverse PySem.F.type_list_reverse mt_reverse mtT_reverse))
     (vss_one (vs_expr (vx_bm 0 PySem.F.slot_list_append PySem.F.type_list_append mt_append mtT_append (va_cons (VP.ve vp_int) va_nil)))))
     vss_nil)
   (VSs.weak (u:=(C7)) (vss_cons (vs_if (vc_eq hu (vr_var 2) (VP.vr vp_int))
     (vss_one (vs_ret (VP.vx (vp_callB (call_sum_ints rfl) callT_sum (by rfl) M.sum b_sum (var_cons (vr_var 3) var_nil)))))
     vss_nil)
   (vss_cons (vs_if (vc_eq hu (vr_var 2) (VP.vr vp_int))
     (vss_one (vs_ret (VP.vx (vp_callB call_lenU callT_len (by rfl) M.len PySem.boot_len (var_cons (vr_var 3) var_nil)))))
     vss_nil)
   (vss_cons (vs_if (vc_eq hu (vr_var 2) (VP.vr vp_int))
     (vss_one (vs_ret (VP.vx (VE.vp (ve_var 3)))))
     vss_nil)
   (vss_one (vs_ret (VP.vx (vp_minD rfl (by rfl) M.min (vr_var 3)))))))) ?w7)))),?main⟩
 case main =>
  obtain ⟨k,sp,xs,rfl,rfl,hp,hq⟩:=hG
  refine iteD (fun _=>?_) (fun _=>?_)
  · refine ⟨rfl,iteD (fun _=>⟨rfl,lt10 (Nat.zero_le _),?_⟩) (fun _=>?_)⟩
    · exact ⟨k,sp,xs,_,hp,rfl,fun ρ'=>hq _⟩
    · exact ⟨k,sp,xs,_,hp,rfl,fun ρ'=>hq _⟩
  · refine iteD (fun _=>⟨rfl,lt10 (by rw [List.length_reverse]; exact hp.l),?_⟩) (fun _=>?_)
    · exact ⟨k,sp,xs,_,hp,rfl,fun ρ'=>hq _⟩
    · exact ⟨k,sp,xs,_,hp,rfl,fun ρ'=>hq _⟩
 case w7 =>
  rintro d ρ ⟨k,sp,xs,y,hp,rfl,fin⟩
  refine iteD (fun h0=>?_) (fun h0=>?_)
  · subst h0
    obtain ⟨ns,e1,e2,_⟩:=ints_of hp (by decide) (by decide)
    refine ⟨ns,by rw [e1]; exact intsOf_map ns,?_⟩
    have:=fin
    rw [comeD,if_pos rfl,e2] at this
    exact this _
  refine iteD (fun h1=>?_) (fun h1=>?_)
  · have:=fin
    rw [comeD,if_neg h0,if_pos h1] at this
    exact this _
  refine iteD (fun h2=>?_) (fun h2=>?_)
  · have:=fin
    rw [comeD,if_neg h0,if_neg h1,if_pos h2] at this
    exact this _
  obtain ⟨ns,e1,e2,_⟩:=ints_of hp h1 h2
  refine ⟨ns,by rw [e1],fun m m1 m2=>?_⟩
  have:=fin
  rw [comeD,if_neg h0,if_neg h1,if_neg h2,e2,← minZ_eq m1 m2] at this
  exact this _
def gWant (ct:List T) (t:T) (q:Rt→Prop):Prop:=∃ (k n:Int) (ps xs:List T),ct=[.lst ps,.int n,.int k]∧t=comeD k xs∧Pts k xs∧Pts k ps∧0≤n∧n < 10 ^ 9∧q (.vw (.bl (wantD k n ps t)))
theorem ok_wanted (M:MgA mg):CloOk P w K mg base 1 FW false fun ct t q=>gWant ct t (q []):=by
 refine fn_clo (k:=0) scW (fun cl doc pm ctv c u=>rfl) fun A outer s H f c cl as Ox hr ct t q hl hG=>?_
 have nd:=scW.nd
 have hu:=Room.u101 hr
 refine ⟨_,(vss_cons (vs_if (vc_eq hu (vr_var 3) (VP.vr vp_int))
    (vss_one (vs_ret (VP.vx (vp_ge (VP.vr (vp_mod (vr_var 0) (VP.vr vp_int))) (VP.vr (vp_mod (vr_var 2) (VP.vr vp_int)))))))
    vss_nil)
   (vss_cons (vs_if (vc_eq hu (vr_var 3) (VP.vr vp_int))
     (vss_one (vs_ret (VP.vx (vp_ge (vr_var 0) (VP.vr (vp_mod (vr_var 2) (VP.vr vp_int)))))))
     vss_nil)
   (vss_cons (vs_if (vc_eq hu (vr_var 3) (VP.vr vp_int))
     (vss_one (vs_ret (VP.vx (vp_or (vp_eq hu (vr_var 1) (VP.vr (vp_lst va_nil))) (vp_one (vp_and (vp_inL hu (VP.vr (vp_ix (vr_var 1) (VP.vr vp_int))) (vr_var 0)) (vp_one (vp_inL hu (VP.vr (vp_ix (vr_var 1) (VP.vr (vp_neg (VP.vr vp_int))))) (vr_var 0)))))))))
     vss_nil)
   (vss_one (vs_ret (VP.vx (vp_le (vr_var 0) (VP.vr (vp_sub (VP.vr (vp_mod (vr_var 2) (VP.vr vp_int))) (VP.vr vp_int)))))))))),?main⟩
 case main =>
  obtain ⟨k,n,ps,xs,rfl,rfl,hp,hps,n0,n9,hq⟩:=hG
  refine iteD (fun h0=>?_) (fun h0=>?_)
  · subst h0
    exact ⟨by decide,by decide,hq⟩
  refine iteD (fun h1=>?_) (fun h1=>?_)
  · subst h1
    exact ⟨by decide,hq⟩
  refine iteD (fun h2=>?_) (fun h2=>?_)
  · subst h2
    obtain ⟨pp,pd⟩:=pts_plain hps
    obtain ⟨xp,xd⟩:=pts_plain hp
    cases ps with
    | nil=>exact ⟨Nat.zero_le _,rfl,rfl,by decide,hq⟩
    | cons p ps =>
      refine ⟨Nat.zero_le _,pp,rfl,by simp only [dep]; omega,p,L2.atI_nat (xs:=p :: ps) (j:=0) rfl,plain_mem pp List.mem_cons_self,xp,by omega,?_⟩
      refine and_of (fun g=>?_) (fun g=>?_)
      · refine ⟨_,atI_lastT,plain_mem pp (List.getLast_mem _),xp,by omega,?_⟩
        have e:wantD 2 n (p :: ps) (comeD 2 xs)=xs.any fun x=>eqT x ((p :: ps).getLast (by simp)):=by
         show ((xs.any fun x=>eqT x p) && _)=_
         rw [show (xs.any fun x=>eqT x p)=true from g,Bool.true_and]
        rw [e] at hq
        exact hq
      · have e:wantD 2 n (p :: ps) (comeD 2 xs)=false:=by
         show ((xs.any fun x=>eqT x p) && _)=_
         rw [show (xs.any fun x=>eqT x p)=false from g,Bool.false_and]
        rw [e] at hq
        exact hq
  have h3:k=3:=by have:=hp.k0; omega
  subst h3
  exact ⟨by decide,hq⟩
end
end K76
namespace K76
open PySem L2 VT CLO
abbrev cW (k n:Int) (ps:List T):T:=.clo FW [.lst ps,.int n,.int k]
abbrev cC (k sp:Int):T:=.clo FC [.int sp,.int k]
def sel (ps:List T) (ns:List Nat):List T:=ns.map fun i=>ps.getD i .non
def nT (ns:List Nat):T:=.lst (ns.map fun (i:Nat)=>T.int (i:Int))
def gIsW (ts:List T) (q:Rt→Prop):Prop:=∃ (k n:Int) (ps xs:List T),ts=[cW k n ps,comeD k xs]∧Pts k xs∧Pts k ps∧0≤n∧n < 10 ^ 9∧q (.vw (.bl (wantD k n ps (comeD k xs))))
def gCame (ts:List T) (q:Rt→Prop):Prop:=∃ (k sp:Int) (ps:List T) (ns:List Nat),ts=[.lst ps,nT ns,cC k sp]∧Pts k ps∧ns.length≤10∧(∀ i∈ns,i < ps.length)∧q (cpR (comeD k (sel ps ns)))
theorem pts_lv {k:Int} {xs:List T} (hp:Pts k xs):∀ u∈xs,Lv 2 u:=fun u hu=>by
 rcases hp.p u hu with ⟨i,rfl,_⟩ | ⟨_,i,rfl⟩
 · exact .inl ⟨i,rfl⟩
 · exact .inr ⟨_,rfl,by simp,fun v hv=>.inl ⟨i,List.mem_singleton.mp hv⟩⟩
theorem lst_lv {k:Int} {xs:List T} (hp:Pts k xs):Lv 3 (.lst xs):=.inr ⟨_,rfl,by have:=hp.l; omega,pts_lv hp⟩
theorem come_lv {k:Int} {xs:List T} (hp:Pts k xs):Lv 3 (comeD k xs):=by
 unfold comeD
 split
 · exact .inl ⟨_,rfl⟩
 split
 · exact .inl ⟨_,rfl⟩
 split
 · exact lst_lv hp
 · exact .inl ⟨_,rfl⟩
theorem come_plain {k:Int} {xs:List T} (hp:Pts k xs):plainT (comeD k xs)=true:=by
 unfold comeD
 split
 · rfl
 split
 · rfl
 split
 · exact (pts_plain hp).1
 · rfl
theorem sel_pts {k:Int} {ps:List T} {ns:List Nat} (hp:Pts k ps) (hl:ns.length≤10) (hn:∀ i∈ns,i < ps.length):Pts k (sel ps ns):=⟨hp.k0,by rw [sel,List.length_map]; exact hl,fun t ht=>by
 obtain ⟨i,hi,rfl⟩:=List.mem_map.mp ht
 have h:=hn i hi
 rw [List.getD_eq_getElem?_getD,List.getElem?_eq_getElem h]
 exact hp.p _ (List.getElem_mem h)⟩
section
variable {P:Program} {w:World} {K:PySem.W.Frag} {mg:Str→Option Value} {base:Heap}
abbrev n_is_wanted:List Str:=["wanted","came"]
theorem sc_is_wanted:FnScope n_is_wanted ["wanted","came"] (defScope s_is_wanted):=⟨rfl,rfl,rfl,by decide +kernel,rfl,by decide +kernel,by decide +kernel⟩
theorem ok_is_wanted {f:Addr} {fd:FuncData} (D:Df K mg "is_wanted" s_is_wanted ["wanted","came"] f fd) (M:MgA mg) (C_copied:Cal P w K mg base "copied" ["thing"] 4 (spP K 1 (gCop 3))):Cal P w K mg base "is_wanted" ["wanted","came"] 5 (spP K 2 gIsW):=by
 refine D.cal (fnP D.F sc_is_wanted rfl fun cdv A outer s H E Ox hr ts q hG=>?_)
 have nd:=sc_is_wanted.nd
 have hu:=Room.u101 hr
 have np:∀ {i:Nat},NotPar ⟨H,[],Ox⟩ i:=np0
 have npf:∀ {is:List Nat},∀ i∈is,NotPar ⟨H,[],Ox⟩ i:=fun i _=>np0
 have C_wanted:=ok_wanted (P:=P) (w:=w) (K:=K) (base:=base) M
 refine ⟨_,(vss_one (vs_ret (VP.vx (vp_callTy CLO.call_bool1 CLO.callT_bool1 (by rfl) M.bool b_bool (var_cons (VP.vr (vp_callQ 0 C_wanted (hr.mono (by decide)) (VP.ve (vp_callC C_copied hr (va_cons (ve_var 1) va_nil))))) var_nil))))),fun _=>?_⟩
 obtain ⟨k,n,ps,xs,rfl,hp,hps,n0,n9,hq⟩:=hG
 refine ⟨_,rfl,by show (plainTs ps && true)=true; rw [(pts_plain hps).1]; rfl,rfl,_,rfl,come_lv hp,?_⟩
 show plainT (cpR (comeD k xs)).t=true∧gWant _ (cpR (comeD k xs)).t _
 rw [cpR_t]
 exact ⟨come_plain hp,k,n,ps,xs,rfl,rfl,hp,hps,n0,n9,_,rfl,hq⟩
abbrev n_came_of_parts:List Str:=["whole","numbers","ending"]
theorem sc_came_of_parts:FnScope n_came_of_parts ["whole","numbers","ending"] (defScope s_came_of_parts):=⟨rfl,rfl,rfl,by decide +kernel,rfl,by decide +kernel,by decide +kernel⟩
theorem nd_came_of_parts_c0:(n_came_of_parts ++ (["number"]:List Str)).Nodup:=by decide +kernel
theorem ok_came_of_parts {f:Addr} {fd:FuncData} (D:Df K mg "came_of_parts" s_came_of_parts ["whole","numbers","ending"] f fd) (M:MgA mg) (C_copied:Cal P w K mg base "copied" ["thing"] 4 (spP K 1 (gCop 3))):Cal P w K mg base "came_of_parts" ["whole","numbers","ending"] 5 (spP K 3 gCame):=by
 obtain ⟨f_copied,fd_copied,m_copied,k_copied,b_copied,F_copied⟩:=id C_copied
 refine D.cal (fnP D.F sc_came_of_parts rfl fun cdv A outer s H E Ox hr ts q hG=>?_)
 have nd:=sc_came_of_parts.nd
 have hu:=Room.u101 hr
 have np:∀ {i:Nat},NotPar ⟨H,[],Ox⟩ i:=np0
 have npf:∀ {is:List Nat},∀ i∈is,NotPar ⟨H,[],Ox⟩ i:=fun i _=>np0
 have C_ending:=ok_come (P:=P) (w:=w) (K:=K) (base:=base) M
 refine ⟨_,(vss_one (vs_ret (vx_call1 F_copied (hr.mono (by decide)) (by rfl) m_copied k_copied b_copied (vx_callN 2 C_ending (hr.mono (by decide)) (vp_callC C_copied hr (va_cons (VP.ve (vp_comp (ts:=["number"]) rfl (by rfl) (vi_seq (ve_var 1)) (fun _ _ _ _ _ _=>(vg_name (i:=3) nd_came_of_parts_c0 rfl (Or.inl rfl) np)) (fun _ _ _ _ _ _=>vcs_nil) (fun _ _ _ _ _ _=>(VP.ve (vp_ix (vr_var 0) (vr_var 3)))))) va_nil)))))),fun _=>?_⟩
 obtain ⟨k,sp,ps,ns,rfl,hp,hl,hn,hq⟩:=hG
 have hs:=sel_pts hp hl hn
 refine ⟨_,rfl,rfl,rfl,le8 (by rw [List.length_map]; omega),?_⟩
 show wComp _ _ _ _ (ns.map _) _
 refine wComp_mapL (f:=fun (i:Nat)=>T.int (i:Int)) (u:=fun i=>ps.getD i .non) (fun i hi r hr=>?_) ?_
 · have h:=hn i hi
   rw [List.getD_eq_getElem?_getD,List.getElem?_eq_getElem h] at hr
   exact ⟨_,L2.atI_nat (List.getElem?_eq_getElem h),hr⟩
 · refine ⟨rfl,_,rfl,lst_lv hs,_,rfl,(pts_plain hs).1,k,sp,_,rfl,rfl,hs,fun us=>?_⟩
   exact ⟨_,rfl,come_lv hs,hq⟩
end
end K76
namespace K76
open PySem L2 VT CLO
abbrev cm (k:Int) (ps:List T) (told:List Nat) (x:Nat):T:=comeD k (sel ps (told.filter fun i=>i != x))
def tryD (k n:Int) (ps:List T) (told:List Nat) (i:Nat):Bool×T :=
 let came:=comeD k (sel ps (told.filter (· != i)))
 let out:=wantD k n ps came
 (out,.tup [.int (i:Int),came,.bl out])
def stepD (k n:Int) (ps:List T) (st:List Nat×List T) (i:Nat):List Nat×List T :=
 (if (tryD k n ps st.1 i).1=true then st.1.filter (· != i) else st.1,st.2 ++ [(tryD k n ps st.1 i).2])
def rndD (k n:Int) (ps:List T) (left:List Nat) (tr:List T):List Nat×List T:=left.reverse.foldl (stepD k n ps) (left,tr)
structure Ns (ps:List T) (ns:List Nat):Prop where
 l:ns.length≤10
 lt:∀ i∈ns,i < ps.length
theorem Ns.filter {ps:List T} {ns:List Nat} (h:Ns ps ns) (p:Nat→Bool):Ns ps (ns.filter p):=⟨Nat.le_trans (List.length_filter_le _ _) h.l,fun i hi=>h.lt i ((List.mem_filter.mp hi).1)⟩
def gLeft:GT:=fun ts q=>∃ (k sp n:Int) (ps:List T) (left:List Nat) (tr:List T),ts=[.lst ps,nT left,cC k sp,cW k n ps,.lst tr]∧Pts k ps∧Ns ps left∧0≤n∧n < 10 ^ 9∧tr.length≤900 ∧
 q [.lst (rndD k n ps left tr).2] (.vw (nT (rndD k n ps left tr).1))
theorem stepD_ns {k n:Int} {ps:List T} {st:List Nat×List T} {i:Nat} (h:Ns ps st.1):Ns ps (stepD k n ps st i).1:=by
 unfold stepD
 dsimp only
 split
 · exact h.filter _
 · exact h
theorem stepD_len {k n:Int} {ps:List T} {st:List Nat×List T} {i:Nat}:(stepD k n ps st i).2.length=st.2.length+1:=by
 unfold stepD
 rw [List.length_append]; rfl
section
variable {P:Program} {w:World} {K:PySem.W.Frag} {mg:Str→Option Value} {base:Heap}
abbrev n_left_of_round:List Str:=["whole","left","ending","wanted","tries","told","number","others","came","out"]
theorem sc_left_of_round:FnScope n_left_of_round ["whole","left","ending","wanted","tries"] (defScope s_left_of_round):=⟨rfl,rfl,rfl,by decide +kernel,rfl,by decide +kernel,by decide +kernel⟩
theorem nd_left_of_round_c0:(n_left_of_round ++ (["other"]:List Str)).Nodup:=by decide +kernel
theorem ok_left_of_round {f:Addr} {fd:FuncData} (D:Df K mg "left_of_round" s_left_of_round ["whole","left","ending","wanted","tries"] f fd) (M:MgA mg) (C_is_wanted:Cal P w K mg base "is_wanted" ["wanted","came"] 5 (spP K 2 gIsW)) (C_came_of_parts:Cal P w K mg base "came_of_parts" ["whole","numbers","ending"] 5 (spP K 3 gCame)):Cal P w K mg base "left_of_round" ["whole","left","ending","wanted","tries"] 6 (spOf K [false,false,false,false,true] gLeft):=by
 refine D.cal (fnV D.F sc_left_of_round rfl fun cdv A outer s H E as Ox hr ts q hl hG=>?_)
 have nd:=sc_left_of_round.nd
 have hu:=Room.u101 hr
 refine ⟨_,(vss_cons (vs_set (i:=5) nd rfl (Or.inl rfl) (VP.vx (VE.vp (ve_var 1))) (np_pz (by decide)))
   (vss_cons (vs_for PassesOwn.never rfl (vi_rev (by rfl) M.reversed (ve_var 1)) (vg_name (i:=6) nd rfl (Or.inr rfl) (np_pz (by decide)))
     (vss_cons (vs_comp (i:=7) (ts:=["other"]) nd rfl (Or.inl rfl) rfl (by rfl) (vi_seq (ve_var 5)) (fun _ _ _ _ _ _=>(vg_name (i:=10) nd_left_of_round_c0 rfl (Or.inl rfl) (np_pz (by decide)))) (fun _ _ _ _ _ _=>(vcs_one (vc_ne hu (vr_var 10) (vr_var 6)))) (fun _ _ _ _ _ _=>(ve_var 10)) (np_pz (by decide)))
     (vss_cons (vs_set (i:=8) nd rfl (Or.inl rfl) (VP.vx (vp_callC C_came_of_parts hr (va_cons (ve_var 0) (va_cons (ve_var 7) (va_cons (ve_var 2) va_nil))))) (np_pz (by decide)))
     (vss_cons (vs_set (i:=9) nd rfl (Or.inl rfl) (VP.vx (vp_callC C_is_wanted hr (va_cons (ve_var 3) (va_cons (ve_var 8) va_nil)))) (np_pz (by decide)))
     (vss_cons (vs_expr (vx_bm 4 PySem.F.slot_list_append PySem.F.type_list_append mt_append mtT_append (va_cons (VP.ve (vp_tup (va_cons (ve_var 6) (va_cons (ve_var 8) (va_cons (ve_var 9) va_nil))))) va_nil)))
     (vss_one (vs_if (vc_val (VE.vp (ve_var 9)))
       (vss_one (vs_set (i:=5) nd rfl (Or.inl rfl) (VP.vx (VE.vp (ve_var 7))) (np_pz (by decide))))
       vss_nil)))))))
   (vss_one (vs_ret (VP.vx (VE.vp (ve_var 5))))))),?_⟩
 obtain ⟨k,sp,n,ps,left,tr,rfl,hp,hn,n0,n9,htr,hq⟩:=hG
 refine ⟨_,rfl,?_⟩
 show LoopW (List.map _ left).reverse _ _ _ _
 rw [← List.map_reverse]
 refine loop_map (fun i ρ=>∃ (b6 b7 b8 b9:Option (T×Bool)) (st:List Nat×List T),st=(left.reverse.take i).foldl (stepD k n ps) (left,tr)∧ρ=[vw (.lst ps),vw (nT left),vw (cC k sp),vw (cW k n ps),some (.lst st.2,true),vw (nT st.1),b6,b7,b8,b9]∧Ns ps st.1∧st.2.length≤tr.length+i)
  ⟨none,none,none,none,_,rfl,rfl,hn,Nat.le_refl _⟩ (fun i x ρ' hx ⟨b6,b7,b8,b9,st,est,eρ,hs,hsl⟩=>?_) fun ρ' ⟨b6,b7,b8,b9,st,est,eρ,hs,hsl⟩=>?_
 · subst eρ
   have hi:i < left.length:=by have:=(List.getElem?_eq_some_iff.mp hx).1; rw [List.length_reverse] at this; exact this
   have hl:=hn.l
   have e2:(left.reverse.take (i+1)).foldl (stepD k n ps) (left,tr)=stepD k n ps st x:=by rw [List.take_add_one,hx,List.foldl_append,← est]; rfl
   refine ⟨rfl,le8 (by rw [List.length_map]; have:=hs.l; omega),?_⟩
   show wComp _ _ _ _ (st.1.map _) _
   refine wComp_filL (f:=fun (i:Nat)=>T.int (i:Int)) (u:=fun (i:Nat)=>T.int (i:Int)) (p:=fun i=>i != x) (fun _ _ _ _ _=>trivial) (fun j hj kk ss hif=>?_) ?_
   · have e:(!decide ((j:Int)=(x:Int)))=(j != x):=by rw [Bool.eq_iff_iff]; simp only [Bool.not_eq_true',decide_eq_false_iff_not,bne_iff_ne]; omega
     show if (!decide ((j:Int)=(x:Int)))=true then kk (.int (j:Int)) else ss
     rw [e]
     exact hif
   · have hf:=hs.filter (fun i=>i != x)
     refine ⟨rfl,k,sp,ps,_,rfl,hp,hf.l,hf.lt,rfl,k,n,ps,sel ps (st.1.filter fun i=>i != x),?_,sel_pts hp hf.l hf.lt,hp,n0,n9,?_⟩
     · show [cW k n ps,(cpR (cm k ps st.1 x)).t]=_
       rw [cpR_t]
     · refine ⟨le8 (show 3≤1000 by decide),Nat.lt_of_lt_of_le (show st.2.length < 1000 by omega) (by decide +kernel),?_⟩
       by_cases z:wantD k n ps (cm k ps st.1 x)=true
       · have e3:stepD k n ps st x=(st.1.filter (fun i=>i != x),st.2 ++ [.tup [.int (x:Int),cm k ps st.1 x,.bl (wantD k n ps (cm k ps st.1 x))]]):=by
          unfold stepD tryD
          dsimp only
          rw [if_pos z]
         rw [e3] at e2
         refine iteB z ?_
         refine ⟨vw (.int (x:Int)),vw (nT (st.1.filter fun i=>i != x)),vw (cm k ps st.1 x),vw (.bl (wantD k n ps (cm k ps st.1 x))),_,e2.symm,?_,hf,by rw [List.length_append,List.length_singleton]; omega⟩
         show [vw (.lst ps),vw (nT left),vw (cC k sp),vw (cW k n ps),some (.lst (st.2 ++ [.tup [.int (x:Int),(cpR (cm k ps st.1 x)).t,.bl (wantD k n ps (cm k ps st.1 x))]]),true),vw (nT (st.1.filter fun i=>i != x)),vw (.int (x:Int)),vw (nT (st.1.filter fun i=>i != x)),vw (cpR (cm k ps st.1 x)).t,vw (.bl (wantD k n ps (cm k ps st.1 x)))]=_
         rw [cpR_t]
       · have e3:stepD k n ps st x=(st.1,st.2 ++ [.tup [.int (x:Int),cm k ps st.1 x,.bl (wantD k n ps (cm k ps st.1 x))]]):=by
          unfold stepD tryD
          dsimp only
          rw [if_neg z]
         rw [e3] at e2
         refine iteN ((Bool.not_eq_true _).mp z) ?_
         refine ⟨vw (.int (x:Int)),vw (nT (st.1.filter fun i=>i != x)),vw (cm k ps st.1 x),vw (.bl (wantD k n ps (cm k ps st.1 x))),_,e2.symm,?_,hs,by rw [List.length_append,List.length_singleton]; omega⟩
         show [vw (.lst ps),vw (nT left),vw (cC k sp),vw (cW k n ps),some (.lst (st.2 ++ [.tup [.int (x:Int),(cpR (cm k ps st.1 x)).t,.bl (wantD k n ps (cm k ps st.1 x))]]),true),vw (nT st.1),vw (.int (x:Int)),vw (nT (st.1.filter fun i=>i != x)),vw (cpR (cm k ps st.1 x)).t,vw (.bl (wantD k n ps (cm k ps st.1 x)))]=_
         rw [cpR_t]
 · subst eρ
   rw [List.take_length] at est
   subst est
   exact hq
end
end K76
namespace CLO
open PySem PySem.Spec PyProof.Rows L2 VT
section
variable {X:Cx} {Z:Zc}
def gRetD2 (f:FP) (i:Nat):FSD:=fun _ dp ρ=>f ρ fun r=>∃ ts us,r = .fr (.lst ts)∧ρ[i]?=some (some (.lst us,true))∧dp [.lst ts,.lst us]
theorem vsd_ret2 (i:Nat) {e:Expr} {f:FP} {x:Str} {x1} {p pn pos:Pos} (hP:Z.P=[]) (he:VP X Z e f) (hN:X.N[i]?=some x:=by rfl) (hv:Vis X.env.scope x:=by first | exact Or.inl rfl | exact Or.inr (Or.inl rfl) | exact Or.inr (Or.inr rfl)) (hd:(x == ("__debug__" : Str))=false:=by decide) (hcd:(x == ("__classdict__" : Str))=false:=by decide)
  (hs:starEach [e,.Name x pn] X.env=(false,eval e X.env) :: starEach [.Name x pn] X.env:=by rfl) :
  VSsD X Z [.Return (some (.Tuple [e,.Name x pn] x1 p)) pos] (gRetD2 f i):=.mk fun tm =>
 pss_one (PS.weak (ps_ret (pe_tup (pa_cons (he tm) (pa_cons (pe_var hN hv hd hcd) pa_nil) hs))) fun D σ H ⟨ρ,O,d,dp,I,h,F⟩=>by
  refine ⟨ρ,O,_,I,h,fun r hr v H1 s1 z=>?_⟩
  obtain ⟨ts,us,rfl,hi,hq⟩:=hr
  obtain ⟨a,rfl,I1,R1,h0,hx⟩:=z
  obtain ⟨o,sv,h1,h2,h3⟩:=I1.sl i _ hi
  obtain ⟨l,rfl,rfl,R2⟩:=h3
  have ml:l∈roots O:=mem_roots.mpr (List.mem_of_getElem? h1)
  have ol:=I1.own l ml
  have la:l≠a:=fun z=>ol.2.1 (by rw [z]; exact List.mem_cons_self)
  refine ⟨_,h2,Nat.le_trans (show 2≤1000 by decide) (by decide +kernel),fun q hq2=>F.dp _ hq q [a,l] _ ⟨fun b o eb=>?_,upd_same,?_,fun b hb=>?_,?_⟩⟩
  · have:=I1.keep b o eb (by show b∉Z.P.map (·.2); rw [hP]; exact fun z=>nomatch z)
    rw [upd_ne (ne_of_none this hq2)]; exact this
  · exact List.nodup_cons.mpr ⟨fun z=>la (List.mem_singleton.mp z).symm,List.nodup_cons.mpr ⟨(fun z=>nomatch z),List.nodup_nil⟩⟩
  · rcases List.mem_cons.mp hb with rfl | hb
    · exact h0
    · cases List.mem_singleton.mp hb
      rcases ol.1 with z | z
      · have z':l∈Z.P.map (·.2):=z
        rw [hP] at z'; exact nomatch z'
      · exact z
  · have sub:∀ b∈[a,l] ++ Z.Ox,b∈av (Z.ex a) O:=fun b hb=>by
     rcases List.mem_append.mp hb with z | z
     · rcases List.mem_cons.mp z with rfl | z
       · exact List.mem_append_right _ List.mem_cons_self
       · cases List.mem_singleton.mp z
         exact List.mem_append_left _ ml
     · exact List.mem_append_right _ (List.mem_cons_of_mem _ z)
    exact .cons ((R1.same (same_upd hq2)).fewer sub) (.cons ((R2.same (same_upd hq2)).fewer sub) .nil))
def gSpoil2 (i:Nat) (f:En→(List T→Prop)→Prop) (fc:FB) (gr g:FS):FS:=fun d ρ=>f ρ fun us=>i < ρ.length∧(∃ t1 t2,us=[.lst t1,.lst t2])∧fc (ρ.set i (some (.tup us,false))) fun b=>if b=true then gr { d with nx:=fun _=>False } (ρ.set i (some (.tup us,false))) else g d (ρ.set i none)
theorem vss_spoil2 (i:Nat) {x:Str} {e c:Expr} {rb rest:List Stmt} {f:En→(List T→Prop)→Prop} {fc:FB} {gr g:FS} {px p1 p2 q1 q2 c1 c2 b1 b2 a1 a2 d1 d2 e1 e2:Pos} {j1 j2:Nat} (hN:X.N.Nodup) (hi:X.N[i]?=some x) (hx:Loc X.env.scope x) (hv:Vis X.env.scope x)
  (npi:NotPar Z i) (he:VD X Z e f) (hc:VC X Z c fc) (hr:VSs X Z rb gr) (hrest:VSs X Z rest g)
  (hd:(x == ("__debug__" : Str))=false:=by decide) (hcd:(x == ("__classdict__" : Str))=false:=by decide)
  (hs:swapsWith e (some (.Name x px)) p1.line X.env=pure false:=by rfl) (hf:X.fn x=true∨X.env.scope.names.lookup x=some .local:=by first | exact .inl rfl | exact .inr rfl | assumption)
  (hb1:attributeBase (.Subscript (.Name x q1) (.Constant (.int 0) j1 c1) b1) "clear" X.env (eval (.Subscript (.Name x q1) (.Constant (.int 0) j1 c1) b1) X.env)=eval (.Subscript (.Name x q1) (.Constant (.int 0) j1 c1) b1) X.env:=by rfl)
  (hb2:attributeBase (.Subscript (.Name x q2) (.Constant (.int 1) j2 c2) b2) "clear" X.env (eval (.Subscript (.Name x q2) (.Constant (.int 1) j2 c2) b2) X.env)=eval (.Subscript (.Name x q2) (.Constant (.int 1) j2 c2) b2) X.env:=by rfl)
  (hl1:(a1.endLine == d1.line)=true:=by rfl) (hl2:(a2.endLine == d2.line)=true:=by rfl)
  (hs1:swapsWith (.Call (.Attribute (.Subscript (.Name x q1) (.Constant (.int 0) j1 c1) b1) "clear" a1) [] [] d1) none e1.line X.env=pure false:=by rfl)
  (hs2:swapsWith (.Call (.Attribute (.Subscript (.Name x q2) (.Constant (.int 1) j2 c2) b2) "clear" a2) [] [] d2) none e2.line X.env=pure false:=by rfl) :
  VSs X Z (.Assign [.Name x px] e p1 :: .If c rb [] p2 :: .Expr (.Call (.Attribute (.Subscript (.Name x q1) (.Constant (.int 0) j1 c1) b1) "clear" a1) [] [] d1) e1 :: .Expr (.Call (.Attribute (.Subscript (.Name x q2) (.Constant (.int 1) j2 c2) b2) "clear" a2) [] [] d2) e2 :: rest) (gSpoil2 i f fc gr g):=.mk fun tm =>
 PSs.weak' (pss_cons (ps_set hN hi hx (he tm) hs hf) (pss_cons (ps_if (hc tm) (hr tm) pss_nil)
  (pss_cons (ps_expr (pe_bm0 PySem.F.plainAttrs_list PySem.F.slot_list_clear PySem.F.type_list_clear mt_clear (pe_ix ix_tup (pe_var hi hv hd hcd) pe_int (fun _ _=>rfl)) hb1 hl1) hs1)
  (pss_cons (ps_expr (pe_bm0 PySem.F.plainAttrs_list PySem.F.slot_list_clear PySem.F.type_list_clear mt_clear (pe_ix ix_tup (pe_var hi hv hd hcd) pe_int (fun _ _=>rfl)) hb2 hl2) hs2) (hrest tm))))) fun D σ H ⟨ρ,O,d,I,q,F⟩=>by
  refine ⟨ρ,O,_,I,q,fun us hus p ls H1 DD=>?_⟩
  obtain ⟨hil,⟨t1,t2,rfl⟩,hq⟩:=hus
  have I1:EnvAt X.K Z tm (O.set i none) (ρ.set i (some (.tup [.lst t1,.lst t2],false))) (σ.set i (some (.ref p))) H1:=(I.same DD.same).put npi (DD.at I)
  show lB X Z tm fc (σ.set i (some (.ref p))) H1 _
  refine ⟨_,_,_,I1,hq,fun b hb2 H2 s2=>?_⟩
  cases b with
  | true =>
    rw [if_pos rfl] at hb2 ⊢
    exact ⟨_,_,_,I1.same s2,hb2,⟨fun _ _ _ _ _ h'=>h'.elim,F.rt,F.bk,F.ct⟩⟩
  | false =>
    rw [if_neg Bool.false_ne_true] at hb2 ⊢
    have hip:i < σ.length:=by rw [I.lσ]; exact hil
    have sH:Same H H2:=DD.same.trans s2
    have tp:H2 p=some (.tup (ls.map V.ref)):=s2 _ _ DD.tup
    obtain ⟨l1,l2,rfl,h1,h2⟩:∃ l1 l2,ls=[l1,l2]∧(∃ v1,H1 l1=some (.lst v1))∧∃ v2,H1 l2=some (.lst v2):=by
     have rts:=DD.rts
     generalize ls ++ av Z O=A at rts
     cases rts with
     | cons h1 t=>cases t with
       | cons h2 t =>
         cases t
         obtain ⟨v1,g1,_⟩:=h1
         obtain ⟨v2,g2,_⟩:=h2
         exact ⟨_,_,rfl,⟨v1,g1⟩,v2,g2⟩
    obtain ⟨v1,g1⟩:=h1
    obtain ⟨v2,g2⟩:=h2
    have ne:∀ a∈[l1,l2],∀ b o,H b=some o→b≠a:=fun a ha b o eb z=>by rw [z,DD.new a ha] at eb; cases eb
    have n12:l2≠l1:=fun z=>(List.nodup_cons.mp DD.nd).1 (by rw [z]; exact List.mem_cons_self)
    have np1:l1≠p:=fun z=>by have:=s2 _ _ g1; rw [z,tp] at this; cases this
    have np2:l2≠p:=fun z=>by have:=s2 _ _ g2; rw [z,tp] at this; cases this
    refine ⟨_,List.getElem?_set_self hip,p,_,0,.ref l1,rfl,rfl,SqT.of tp,L2.atI_nat (j:=0) rfl,.inl ⟨rfl,v1,SqL.of (s2 _ _ g1)⟩,l1,v1,rfl,rfl,s2 _ _ g1,?_⟩
    have tp':upd H2 l1 (.lst []) p=some (.tup ([l1,l2].map V.ref)):=by rw [upd_ne (Ne.symm np1)]; exact tp
    have g2':upd H2 l1 (.lst []) l2=some (.lst v2):=by rw [upd_ne n12]; exact s2 _ _ g2
    refine ⟨_,List.getElem?_set_self hip,p,_,1,.ref l2,rfl,rfl,SqT.of tp',L2.atI_nat (j:=1) rfl,.inl ⟨rfl,v2,SqL.of g2'⟩,l2,v2,rfl,rfl,g2',?_⟩
    refine ⟨_,_,d,(I.same fun b o eb=>?_).scrap _ npi,hb2,F⟩
    rw [upd_ne (ne l2 (List.mem_cons_of_mem _ List.mem_cons_self) b o eb),upd_ne (ne l1 List.mem_cons_self b o eb)]
    exact sH b o eb
end
end CLO
namespace CLO
open PySem PySem.Spec PyProof.Rows L2 VT
section
variable {X:Cx} {Z:Zc} {a:Expr} {f:FE} {t:TE} {p p2 pos pos2:Pos}
def tLR (t:TE):TE:=fun σ H Q=>t σ H fun v H1=>∃ n:Nat,v = .int n∧n≤1000∧∀ l,H1 l=none→Q (.ref l) (upd H1 l (.lst ((List.range n).map fun (i:Nat)=>V.int (i:Int))))
theorem vals_from:∀ (l:List Value) (k:Nat),(∀ (j:Nat) v,l[j]?=some v→∃ t,v = .int ((k+j:Nat):Int) t)→Vals ((List.range' k l.length).map fun (i:Nat)=>V.int (i:Int)) l
 | [],_,_=>.nil
 | v :: l,k,h=>by
   rw [List.length_cons,List.range'_succ,List.map_cons]
   obtain ⟨t,rfl⟩:=h 0 v rfl
   refine .cons ⟨t,rfl⟩ (vals_from l (k+1) fun j u hj=>?_)
   obtain ⟨t',e⟩:=h (j+1) u hj
   exact ⟨t',by rw [e]; congr 2; omega⟩
theorem vals_range {acc:Array Value} {n:Nat} (h:ItemsOf (fun i v=>∃ t,v = .int (0+(i:Int) * 1) t) acc n):Vals ((List.range n).map fun (i:Nat)=>V.int (i:Int)) acc.toList:=by
 have:=vals_from acc.toList 0 fun j v hj=>by
  obtain ⟨t,e⟩:=h.2 j v (by rw [← hj]; simp)
  exact ⟨t,by rw [e]; congr 1; omega⟩
 rw [Array.length_toList,h.1] at this
 rw [List.range_eq_range']
 exact this
theorem pe_lrange (hc:X.calm=true) (hgl:Gl X "list") (hml:X.mg "list" = none) (hgr:Gl X "range") (hmr:X.mg "range" = none) (ha:PE X a t) (hs:starEach [a] X.env=[(false,eval a X.env)]:=by rfl)
  (hs2:starEach [.Call (.Name "range" p2) [a] [] pos2] X.env=[(false,eval (.Call (.Name "range" p2) [a] [] pos2) X.env)]:=by rfl) :
  PE X (.Call (.Name "list" p) [.Call (.Name "range" p2) [a] [] pos2] [] pos) (tLR t):=by
 intro pins s σ H Q I h
 refine wpAny_Call_Name_kw (ld_blt I hgl hml b_list ?_ (by decide) (by decide))
 refine PyProof.Rows.callWith_type1 ?_ hs2 rfl
 rw [hs2]
 show wpAny _ _ (spliced ((false,eval (.Call (.Name "range" p2) [a] [] pos2) X.env) :: [])) _ _ s
 refine Calls.spliced_cons ?_
 refine Call_ (ld_blt I hgr hmr boot_range (PyProof.Rows.callWith_type1 (thn (pa_cons ha pa_nil hs pos2 pins s σ H (fun vs H1=>match vs with
  | [v]=>∃ n:Nat,v = .int n∧n≤1000∧∀ l,H1 l=none→Q (.ref l) (upd H1 l (.lst ((List.range n).map fun (i:Nat)=>V.int (i:Int))))
  | _=>False) I h) fun us s1 ⟨vs,H1,I1,r1,q1⟩=>?_) hs rfl))
 dsimp only at q1
 split at q1
 next v =>
  obtain ⟨n,rfl,hn,q⟩:=q1
  obtain ⟨u,rfl,t,rfl⟩:=vals1 r1
  refine call_range_1 ?_
  refine Calls.spliced_nil ?_
  have I2:Inv X pins σ H1 { s1 with heap:=s1.heap.push { cls:=.type "range",data:=.fields #[.int 0 s1.toks,.int (n:Int) t,.int 1 (s1.toks+1)] },toks:=s1.toks+1+1 }:=I1.kept fun b o e=>Heap.get?_push_of_some _ e
  refine call_list_range (n:=n) (I2.ok.hd hc) (IsRange.new ..) (small_one (by omega) (by omega) (by omega) (by omega)) (by rw [rangeSize_one]; split <;> omega) (Nat.le_trans hn (by decide)) fun h' tk acc' c' hk hS' hacc=>?_
  exact ⟨.ref _,_,I2.laid hk (Nat.le_refl _) (show ObjOk X.prog X.w _ h' _ (.lst _) from ⟨by rw [List.length_map,List.length_range]; exact Nat.le_trans hn (by decide +kernel),acc'.toList,c',vals_range hacc,hS'⟩),rfl,q _ (I2.hok.fresh (Nat.le_refl _))⟩
 · exact q1.elim
def fLR (f:FE):FP:=fun ρ Q=>f ρ fun t=>∃ n:Nat,t = .int (n:Int)∧n≤1000∧Q (.fr (.lst ((List.range n).map fun (i:Nat)=>T.int (i:Int))))
theorem atL_intsM {K:PySem.W.Frag} {H:Hp} {A:List Addr}:∀ ns:List Nat,AtL K H A (ns.map fun (i:Nat)=>T.int (i:Int)) (ns.map fun (i:Nat)=>V.int (i:Int))
 | []=>AtL.nil
 | n :: ns=>AtL.cons at_int (atL_intsM ns)
theorem vp_lrange (hc:X.calm=true) (hgl:Gl X "list") (hml:X.mg "list" = none) (hgr:Gl X "range") (hmr:X.mg "range" = none) (ha:VR X Z a f) (hs:starEach [a] X.env=[(false,eval a X.env)]:=by rfl)
  (hs2:starEach [.Call (.Name "range" p2) [a] [] pos2] X.env=[(false,eval (.Call (.Name "range" p2) [a] [] pos2) X.env)]:=by rfl) :
  VP X Z (.Call (.Name "list" p) [.Call (.Name "range" p2) [a] [] pos2] [] pos) (fLR f) :=
 .mk fun tm=>PE.weak (pe_lrange hc hgl hml hgr hmr (ha tm) hs hs2) fun σ H Q ⟨ρ,O,q,I,hf,k⟩=>⟨ρ,O,_,I,hf,fun t ⟨n,e,hn,h⟩ v H1 s1 a1=>by
  subst e
  refine ⟨n,a1.int,hn,fun l hl=>?_⟩
  exact k _ h _ _ (s1.trans (same_upd hl)) ((I.same s1).newL hl (atL_intsM _))⟩
end
end CLO
namespace K76
open PySem L2 VT CLO
def itD (k n:Int) (ps:List T):Nat→List Nat→List T→List Nat×List T
 | 0,left,tr=>(left,tr)
 | f+1,left,tr=>if (rndD k n ps left tr).1=left then rndD k n ps left tr else itD k n ps f (rndD k n ps left tr).1 (rndD k n ps left tr).2
def fewD (k n:Int) (ps:List T):List Nat×List T:=itD k n ps (ps.length+1) (List.range ps.length) []
def gFew (ts:List T) (q:List T→Prop):Prop:=∃ (k sp n:Int) (ps:List T),ts=[.lst ps,cC k sp,cW k n ps]∧Pts k ps∧0≤n∧n < 10 ^ 9∧wantD k n ps (comeD k ps)=true∧q [.lst (sel ps (fewD k n ps).1),.lst (fewD k n ps).2]
theorem fold_sub {k n:Int} {ps:List T}:∀ (xs:List Nat) (st:List Nat×List T),((xs.foldl (stepD k n ps) st).1=st.1∨(xs.foldl (stepD k n ps) st).1.length < st.1.length)∧(Ns ps st.1→Ns ps (xs.foldl (stepD k n ps) st).1)∧(xs.foldl (stepD k n ps) st).2.length=st.2.length+xs.length
 | [],st=>⟨.inl rfl,id,rfl⟩
 | x :: xs,st=>by
   obtain ⟨h1,h2,h3⟩:=fold_sub xs (stepD k n ps st x)
   rw [List.foldl_cons]
   refine ⟨?_,fun h=>h2 (stepD_ns h),by rw [h3,stepD_len,List.length_cons]; omega⟩
   have h0:(stepD k n ps st x).1=st.1∨(stepD k n ps st x).1.length < st.1.length:=by
    unfold stepD
    dsimp only
    split
    · by_cases z:(st.1.filter fun i=>i != x).length=st.1.length
      · exact .inl (List.filter_eq_self.mpr (List.length_filter_eq_length_iff.mp z))
      · exact .inr (by have:=List.length_filter_le (fun i=>i != x) st.1; omega)
    · exact .inl rfl
   rcases h0 with h0 | h0
   · rw [h0] at h1; exact h1
   · rcases h1 with h1 | h1
     · rw [h1]; exact .inr h0
     · exact .inr (by omega)
theorem rnd_sub {k n:Int} {ps:List T} (left:List Nat) (tr:List T):((rndD k n ps left tr).1=left∨(rndD k n ps left tr).1.length < left.length)∧(Ns ps left→Ns ps (rndD k n ps left tr).1)∧(rndD k n ps left tr).2.length=tr.length+left.length:=by
 obtain ⟨h1,h2,h3⟩:=fold_sub (k:=k) (n:=n) (ps:=ps) left.reverse (left,tr)
 exact ⟨h1,h2,by rw [rndD,h3,List.length_reverse]⟩
theorem it_fuel {k n:Int} {ps:List T}:∀ (f:Nat) (left:List Nat) (tr:List T),left.length < f→itD k n ps f left tr=itD k n ps (left.length+1) left tr
 | 0,_,_,h=>absurd h (Nat.not_lt_zero _)
 | f+1,left,tr,h=>by
   rw [itD,itD]
   by_cases z:(rndD k n ps left tr).1=left
   · rw [if_pos z,if_pos z]
   · rw [if_neg z,if_neg z]
     have hl:=(rnd_sub (k:=k) (n:=n) (ps:=ps) left tr).1.resolve_left z
     rw [it_fuel f _ _ (by omega),it_fuel left.length _ _ hl]
 termination_by f left=>(f,left.length)
 decreasing_by all_goals simp_wf; first | (left; omega) | (right; omega) | omega
theorem eq_nT:∀ {a b:List Nat},eqT (nT a) (nT b)=decide (a=b)
 | [],[]=>rfl
 | [],_ :: _=>rfl
 | _ :: _,[]=>rfl
 | a :: as,b :: bs=>by
   have ih:=eq_nT (a:=as) (b:=bs)
   show ((a:Int) == (b:Int) && eqTs (as.map fun (i:Nat)=>T.int (i:Int)) (bs.map fun (i:Nat)=>T.int (i:Int)))=_
   rw [show eqTs (as.map fun (i:Nat)=>T.int (i:Int)) (bs.map fun (i:Nat)=>T.int (i:Int))=decide (as=bs) from ih,Bool.eq_iff_iff]
   simp only [Bool.and_eq_true,beq_iff_eq,decide_eq_true_eq,List.cons.injEq]
   exact and_congr_left fun _=>by omega
theorem nT_plain (ns:List Nat):plainT (nT ns)=true∧dep (nT ns)≤1:=by
 induction ns with
 | nil=>exact ⟨rfl,by decide⟩
 | cons n ns ih=>exact ⟨ih.1,by have h2:=ih.2; simp only [nT,List.map_cons,dep,deps] at h2 ⊢; omega⟩
theorem pNe_lst {x:T} {l:List T} {q:Rt→Prop} (h1:plainT x=true) (h2:plainT (.lst l)=true) (h3:dep x≤100) (hq:q (.vw (.bl (!eqT x (.lst l))))):pNe x (.lst l) q:=by
 cases x <;> exact ⟨h1,h2,h3,hq⟩
theorem ne_lst {ρ:En} {i j:Nat} {x:T} {l:List T} {Q:Bool→Prop} (e1:ρ[i]?=some (some (x,false))) (e2:ρ[j]?=some (some (.lst l,false))) (h1:plainT x=true) (h2:plainT (.lst l)=true) (h3:dep x≤100) (hq:Q (!eqT x (.lst l))):fTst (f2 (fVarR i) (fVarR j) pNe) ρ Q:=by
 unfold fTst f2 fVarR
 rw [e1]
 dsimp only
 rw [e2]
 exact pNe_lst h1 h2 h3 hq
theorem sel_all (ps:List T):sel ps (List.range ps.length)=ps:=by
 refine List.ext_getElem? fun i=>?_
 rw [sel,List.getElem?_map]
 by_cases h:i < ps.length
 · rw [List.getElem?_range h,Option.map_some,List.getD_eq_getElem?_getD,List.getElem?_eq_getElem h]; rfl
 · rw [List.getElem?_eq_none (by rw [List.length_range]; omega),List.getElem?_eq_none (by omega)]; rfl
theorem ns_range {k:Int} {ps:List T} (h:Pts k ps):Ns ps (List.range ps.length):=⟨by rw [List.length_range]; exact h.l,fun i hi=>List.mem_range.mp hi⟩
inductive C8 (d:VEn) (dp:List T→Prop) (ρ:En):Prop
 | mk (k sp n:Int) (ps:List T) (hp:Pts k ps) (n0:0≤n) (n9:n < 10 ^ 9) (hρ:ρ=[vw (.lst ps),vw (cC k sp),vw (cW k n ps),vw (.lst ps),vw (nT (List.range ps.length)),some (.lst [],true),vw .non]) (hq:dp [.lst (sel ps (fewD k n ps).1),.lst (fewD k n ps).2])
section
variable {P:Program} {w:World} {K:PySem.W.Frag} {mg:Str→Option Value} {base:Heap}
abbrev n_fewest:List Str:=["parts","ending","wanted","whole","left","tries","before"]
theorem sc_fewest:FnScope n_fewest ["parts","ending","wanted"] (defScope s_fewest):=⟨rfl,rfl,rfl,by decide +kernel,rfl,by decide +kernel,by decide +kernel⟩
theorem nd_fewest_c0:(n_fewest ++ (["number"]:List Str)).Nodup:=by decide +kernel
theorem ok_fewest {f:Addr} {fd:FuncData} (D:Df K mg "fewest" s_fewest ["parts","ending","wanted"] f fd) (M:MgA mg) (C_copied:Cal P w K mg base "copied" ["thing"] 4 (spP K 1 (gCop 3))) (C_is_wanted:Cal P w K mg base "is_wanted" ["wanted","came"] 5 (spP K 2 gIsW)) (C_came_of_parts:Cal P w K mg base "came_of_parts" ["whole","numbers","ending"] 5 (spP K 3 gCame)) (C_left_of_round:Cal P w K mg base "left_of_round" ["whole","left","ending","wanted","tries"] 6 (spOf K [false,false,false,false,true] gLeft)):Cal P w K mg base "fewest" ["parts","ending","wanted"] 7 (spD K 3 gFew):=by
 obtain ⟨f_left_of_round,fd_left_of_round,m_left_of_round,k_left_of_round,b_left_of_round,F_left_of_round⟩:=C_left_of_round
 refine D.cal (fnD D.F sc_fewest rfl (by decide) fun cdv A outer s H E Ox hr ts q hG=>?_)
 have nd:=sc_fewest.nd
 have hu:=Room.u101 hr
 have np:∀ {i:Nat},NotPar ⟨H,[],Ox⟩ i:=np0
 have npf:∀ {is:List Nat},∀ i∈is,NotPar ⟨H,[],Ox⟩ i:=fun i _=>np0
 refine ⟨_,(vsd_cons (vs_set (i:=3) nd rfl (Or.inr rfl) (VP.vx (vp_callC C_copied hr (va_cons (ve_var 0) va_nil))) np)
   (vsd_cons (vs_set (i:=4) nd rfl (Or.inl rfl) (VP.vx (vp_lrange rfl (by rfl) M.list (by rfl) M.range (VP.vr (vp_callB call_lenU callT_len (by rfl) M.len PySem.boot_len (var_cons (vr_var 3) var_nil))))) np)
   (vsd_cons (vs_if (vc_not (vc_val (vp_callC C_is_wanted hr (va_cons (ve_var 2) (va_cons (VP.ve (vp_callC C_came_of_parts hr (va_cons (ve_var 3) (va_cons (ve_var 4) (va_cons (ve_var 1) va_nil))))) va_nil)))))
     (vss_one vs_not)
     vss_nil)
   (vsd_cons (vs_own (i:=5) nd rfl (Or.inl rfl) (VP.vx (vp_lst va_nil)) np)
   (vsd_cons (vs_set (i:=6) nd rfl (Or.inl rfl) (VP.vx vp_non) np)
   (VSsD.weak (u':=(C8)) (vsd_cons (vs_while PassesOwn.never (vc_ne hu (vr_var 6) (vr_var 4))
     (vss_cons (vs_set (i:=6) nd rfl (Or.inl rfl) (VP.vx (VE.vp (ve_var 4))) np)
     (vss_one (vs_set (i:=4) nd rfl (Or.inl rfl) (vx_callM F_left_of_round (hr.mono (by decide)) (by rfl) m_left_of_round k_left_of_round b_left_of_round (vam_cons (ve_var 3) (vam_cons (ve_var 4) (vam_cons (ve_var 1) (vam_cons (ve_var 2) (vam_own 5 vam_nil)))))) np))))
   (vsd_ret2 5 rfl (vp_comp (ts:=["number"]) rfl (by rfl) (vi_seq (ve_var 4)) (fun _ _ _ _ _ _=>(vg_name (i:=7) nd_fewest_c0 rfl (Or.inl rfl) np)) (fun _ _ _ _ _ _=>vcs_nil) (fun _ _ _ _ _ _=>(VP.ve (vp_ix (vr_var 3) (vr_var 7))))))) ?w8)))))),fun _=>?main⟩
 case main =>
  obtain ⟨k,sp,n,ps,rfl,hp,n0,n9,hw,hq⟩:=hG
  have hl:=hp.l
  refine ⟨rfl,_,rfl,lst_lv hp,ps.length,rfl,by omega,rfl,k,sp,ps,List.range ps.length,rfl,hp,(ns_range hp).l,(ns_range hp).lt,rfl,k,n,ps,ps,?_,hp,hp,n0,n9,?_⟩
  · show [cW k n ps,(cpR (comeD k (sel ps (List.range ps.length)))).t]=_
    rw [cpR_t,sel_all]
  · refine iteN (c:=!wantD k n ps (comeD k ps)) (by rw [hw]; rfl) ?_
    exact ⟨Nat.zero_le _,k,sp,n,ps,hp,n0,n9,rfl,hq⟩
 case w8 =>
  rintro d dp ρ ⟨k,sp,n,ps,hp,n0,n9,rfl,hq⟩
  have hl:=hp.l
  refine ⟨fun m ρ=>∃ (left:List Nat) (tr:List T) (b:T),ρ=[vw (.lst ps),vw (cC k sp),vw (cW k n ps),vw (.lst ps),vw (nT left),some (.lst tr,true),vw b]∧Ns ps left∧plainT b=true∧dep b≤100∧((eqT b (nT left)=false∧m=left.length+1∧tr.length+10 * left.length≤100∧itD k n ps (left.length+1) left tr=fewD k n ps)∨(eqT b (nT left)=true∧(left,tr)=fewD k n ps)),
   ⟨ps.length+1,List.range ps.length,[],.non,rfl,ns_range hp,rfl,by decide,.inl ⟨rfl,by rw [List.length_range],by rw [List.length_range]; simp only [List.length_nil]; omega,by rw [List.length_range]; rfl⟩⟩,?_⟩
  rintro m ρ ⟨left,tr,b,rfl,hn,pb,db,hm⟩
  have hnl:=hn.l
  refine ne_lst (l:=left.map fun (i:Nat)=>T.int (i:Int)) rfl rfl pb (nT_plain left).1 db ?_
  rcases hm with ⟨e1,em,e3,e4⟩ | ⟨e1,e4⟩
  · refine iteB (c:=!eqT b (nT left)) (by rw [e1]; rfl) ?_
    refine ⟨k,sp,n,ps,left,tr,rfl,hp,hn,n0,n9,by omega,?_⟩
    obtain ⟨g1,g2,g3⟩:=rnd_sub (k:=k) (n:=n) (ps:=ps) left tr
    rw [itD] at e4
    by_cases z:(rndD k n ps left tr).1=left
    · rw [if_pos z] at e4
      exact ⟨0,by omega,(rndD k n ps left tr).1,(rndD k n ps left tr).2,nT left,rfl,g2 hn,(nT_plain left).1,Nat.le_trans (nT_plain left).2 (by decide),.inr ⟨by rw [z,eq_nT]; exact decide_eq_true rfl,e4⟩⟩
    · rw [if_neg z] at e4
      have g1:=g1.resolve_left z
      rw [it_fuel _ _ _ g1] at e4
      exact ⟨(rndD k n ps left tr).1.length+1,by omega,(rndD k n ps left tr).1,(rndD k n ps left tr).2,nT left,rfl,g2 hn,(nT_plain left).1,Nat.le_trans (nT_plain left).2 (by decide),.inl ⟨by rw [eq_nT]; exact decide_eq_false (Ne.symm z),rfl,by omega,e4⟩⟩
  · refine iteN (c:=!eqT b (nT left)) (by rw [e1]; rfl) ?_
    rw [← e4] at hq
    refine ⟨rfl,le8 (by rw [List.length_map]; omega),?_⟩
    show wComp _ _ _ _ (left.map _) _
    refine wComp_mapL (f:=fun (i:Nat)=>T.int (i:Int)) (u:=fun i=>ps.getD i .non) (fun i hi r hr=>?_) ?_
    · have h:=hn.lt i hi
      rw [List.getD_eq_getElem?_getD,List.getElem?_eq_getElem h] at hr
      exact ⟨_,L2.atI_nat (List.getElem?_eq_getElem h),hr⟩
    · exact ⟨_,_,rfl,rfl,hq⟩
end
end K76
namespace VT
open PySem PySem.Spec PyProof.Rows L2
def pickI {α:Type} (xs:List α) (is:List Nat):List α:=is.filterMap (xs[·]?)
def stpI (lo hi st:Option Int) (n:Nat):List Nat:=sliceRange (sliceBounds lo hi st n).1 (sliceBounds lo hi st n).2.1 (sliceBounds lo hi st n).2.2
theorem pick_eq (its:List Value) (lo hi st:Option Int):slicePick its.toArray lo hi st=(pickI its (stpI lo hi st its.length)).toArray:=by
 unfold slicePick pickI stpI
 simp
theorem vals_pick {vs:List V} {us:List Value} (r:Vals vs us):∀ is:List Nat,Vals (pickI vs is) (pickI us is)
 | []=>.nil
 | i :: is=>by
   have ih:=vals_pick r is
   unfold pickI at ih ⊢
   rw [List.filterMap_cons,List.filterMap_cons]
   have hl:=r.length
   by_cases h:i < vs.length
   · obtain ⟨u,e1,e2⟩:=r.get (List.getElem?_eq_getElem h)
     rw [List.getElem?_eq_getElem h,e1]
     exact .cons e2 ih
   · rw [List.getElem?_eq_none (by omega),List.getElem?_eq_none (by omega)]
     exact ih
theorem atl_pick {K:PySem.W.Frag} {H:Hp} {A:List Addr} {ts:List T} {vs:List V} (r:AtL K H A ts vs):∀ is:List Nat,AtL K H A (pickI ts is) (pickI vs is)
 | []=>AtL.nil
 | i :: is=>by
   have ih:=atl_pick r is
   unfold pickI at ih ⊢
   rw [List.filterMap_cons,List.filterMap_cons]
   have hl:=r.length
   by_cases h:i < ts.length
   · obtain ⟨v,e1,e2⟩:=r.get (List.getElem?_eq_getElem h)
     rw [List.getElem?_eq_getElem h,e1]
     exact AtL.cons e2 ih
   · rw [List.getElem?_eq_none (by omega),List.getElem?_eq_none (by omega)]
     exact ih
section
variable {X:Cx} {e:Expr} {lo hi:Option Expr} {st:Expr} {pos p2:Pos} {te:TE} {tl th ts:TO}
def tSlS (K:PySem.W.Frag) (te:TE) (tl th ts:TO):TE:=fun σ H Q=>te σ H fun x H1=>tl σ H1 fun l H2=>th σ H2 fun u H3=>ts σ H3 fun s H4=>∃ a xs,x = .ref a∧SqL K H4 a xs∧s≠some 0∧∀ p,H4 p=none→Q (.ref p) (upd H4 p (.lst (pickI xs (stpI l u s xs.length))))
theorem pe_sliceS (he:PE X e te) (hl:PO X lo tl) (hu:PO X hi th) (hs:PO X (some st) ts):PE X (.Subscript e (.Slice lo hi (some st) p2) pos) (tSlS X.K te tl th ts):=by
 intro pins s σ H Q I h
 refine Subscript_ (thn (he pins s σ H _ I h) fun v s1 ⟨x,H1,I1,r1,q1⟩=>?_)
 refine wpAny_Slice (thn (hl pins s1 σ H1 _ I1 q1) fun vl s2 ⟨l,H2,I2,pl,q2⟩=>thn (hu pins s2 σ H2 _ I2 q2) fun vu s3 ⟨u,H3,I3,pu,q3⟩=>thn (hs pins s3 σ H3 _ I3 q3) fun vs s4 ⟨k,H4,I4,pk,q4⟩=>?_)
 have I5:Inv X pins σ H4 { s4 with heap:=s4.heap.push { cls:=.type "slice",data:=.fields #[vl,vu,vs] } }:=I4.kept (t':=s4.toks) fun b ob q=>Heap.get?_push_of_some _ q
 obtain ⟨a,xs,rfl,hx,h0,q⟩:=q4
 cases r1
 obtain ⟨its,r,ht,hz⟩:=I5.list hx
 have hlen:=r.length
 show wpAny (model X.prog X.w) X.A (subscriptTail e (.Slice lo hi (some st) p2) (.ref a) (.ref s4.heap.objs.size)) (EP X pins σ Q) X.xe { s4 with heap:=s4.heap.push { cls:=.type "slice",data:=.fields #[vl,vu,vs] } }
 refine tail_any (ops:=[.ref a,.ref s4.heap.objs.size]) ht.isList.typeIs slot_list_getitem.lookup ?_ (by with_unfolding_all rfl)
 refine wpAny_getItem_list_slice ht.isList (Heap.IsSliceOf.new ..) pl pu pk h0 ?_ (by rw [List.size_toArray] <;> omega)
 have hle:=slicePick_size_le its.toArray l u k
 rw [pick_eq] at hle ⊢
 rw [← hlen] at hle ⊢
 refine ⟨.ref _,_,I5.laid (o:=.lst (pickI xs (stpI l u k xs.length))) (fun b ob q=>Heap.get?_push_of_some _ q) (Nat.le_refl _) ?_,rfl,q _ (I5.hok.fresh (Nat.le_refl _))⟩
 have hv:=vals_pick r (stpI l u k xs.length)
 refine ⟨?_,_,0,hv,Heap.get?_push_size _ rfl⟩
 rw [hv.length]
 simp only [List.size_toArray] at hle
 omega
end
section
variable {X:Cx} {Z:Zc} {e st:Expr} {lo hi:Option Expr} {pos p2:Pos} {fa:FE} {fl fh fs:FO}
def fSlS (fa:FE) (fl fh fs:FO):FP:=fun ρ Q=>fa ρ fun x=>fl ρ fun lo=>fh ρ fun hi=>fs ρ fun st=>match x with
 | .lst ts=>st≠some 0∧Q (.fr (.lst (pickI ts (stpI lo hi st ts.length))))
 | _=>False
theorem vp_sliceS (he:VR X Z e fa) (hl:VO X Z lo fl) (hh:VO X Z hi fh) (hs:VO X Z (some st) fs):VP X Z (.Subscript e (.Slice lo hi (some st) p2) pos) (fSlS fa fl fh fs) :=
 .mk fun tm=>PE.weak (pe_sliceS (he tm) (hl tm) (hh tm) (hs tm)) fun σ H Q ⟨ρ,O,q,I,hf,k⟩=>⟨ρ,O,_,I,hf,fun x hx v H1 s1 a1=>⟨ρ,O,_,I.same s1,hx,fun l hl H2 s2=>⟨ρ,O,_,(I.same s1).same s2,hl,fun u hu H3 s3=>⟨ρ,O,_,((I.same s1).same s2).same s3,hu,fun t ht H4 s4=>by
  have J:=(((I.same s1).same s2).same s3).same s4
  have a4:=((a1.same s2).same s3).same s4
  have S:=((s1.trans s2).trans s3).trans s4
  split at ht
  · obtain ⟨p,vs,rfl,q1,q2⟩:=a4.lst
    refine ⟨p,vs,rfl,q1,ht.1,fun r hr=>?_⟩
    rw [q2.length]
    exact k _ ht.2 _ _ (S.trans (same_upd hr)) (J.newL hr (atl_pick q2 _))
  · exact ht.elim⟩⟩⟩⟩
end
end VT
namespace VT
open PySem
theorem fm_all {α β:Type} (f:α→Option β) (g:α→β):∀ l:List α,(∀ x∈l,f x=some (g x))→l.filterMap f=l.map g
 | [],_=>rfl
 | x :: l,h=>by rw [List.filterMap_cons,h x List.mem_cons_self,List.map_cons,fm_all f g l fun y hy=>h y (List.mem_cons_of_mem _ hy)]
theorem stp_rev (n:Nat):stpI none none (some (-1)) n=(List.range n).map fun k=>n - 1 - k:=by
 unfold stpI sliceRange sliceBounds
 simp only [Option.getD_some,show ¬ ((-1:Int) > 0) by decide,if_false]
 cases n with
 | zero=>rfl
 | succ n =>
   rw [if_pos (by omega)]
   have e:((((n+1:Nat):Int) - 1 - -1 - -1 - 1) / (- -1)).toNat=n+1:=by
    rw [show (- (-1):Int)=1 from rfl,Int.ediv_one]
    omega
   rw [e]
   refine List.map_congr_left fun k hk=>?_
   have:=List.mem_range.mp hk
   omega
theorem pick_rev {α:Type} (xs:List α):pickI xs (stpI none none (some (-1)) xs.length)=xs.reverse:=by
 unfold pickI
 rw [stp_rev,List.filterMap_map]
 refine List.ext_getElem? fun i=>?_
 by_cases hi:i < xs.length
 · have e:(List.range xs.length).filterMap ((fun x=>xs[x]?) ∘ fun k=>xs.length - 1 - k)=(List.range xs.length).map fun k=>xs[xs.length - 1 - k]'(by omega):=fm_all _ _ _ fun k hk=>List.getElem?_eq_getElem _
   rw [e,List.getElem?_map,List.getElem?_range hi,List.getElem?_reverse hi,List.getElem?_eq_getElem (by omega)]
   rfl
 · have h1:=Nat.le_trans (List.length_filterMap_le ((fun x=>xs[x]?) ∘ fun k=>xs.length - 1 - k) (List.range xs.length)) (by rw [List.length_range]; exact Nat.le_of_not_lt hi)
   rw [List.getElem?_eq_none h1,List.getElem?_eq_none (by rw [List.length_reverse]; exact Nat.le_of_not_lt hi)]
end VT
namespace K76
open PySem L2 VT CLO
def stD (k n:Int) (ps:List T) (told:List Nat) (x:Nat):List Nat:=if (tryD k n ps told x).1=true then told.filter (· != x) else told
def outs (k n:Int) (ps:List T):List Nat→List Nat→List T
 | _,[]=>[]
 | told,x :: xs=>(tryD k n ps told x).2 :: outs k n ps (stD k n ps told x) xs
theorem fold_eq {k n:Int} {ps:List T}:∀ (xs:List Nat) (told:List Nat) (tr:List T),xs.foldl (stepD k n ps) (told,tr)=(xs.foldl (stD k n ps) told,tr ++ outs k n ps told xs)
 | [],told,tr=>by simp [outs]
 | x :: xs,told,tr=>by
   rw [List.foldl_cons,List.foldl_cons,show stepD k n ps (told,tr) x=(stD k n ps told x,tr ++ [(tryD k n ps told x).2]) from rfl,fold_eq xs,outs,List.append_assoc]; rfl
theorem rnd_eq {k n:Int} {ps:List T} (left:List Nat) (tr:List T):rndD k n ps left tr=(left.reverse.foldl (stD k n ps) left,tr ++ outs k n ps left left.reverse):=fold_eq _ _ _
theorem outs_get {k n:Int} {ps:List T}:∀ {xs:List Nat} {told:List Nat} {i x:Nat},xs[i]?=some x→(outs k n ps told xs)[i]?=some (tryD k n ps ((xs.take i).foldl (stD k n ps) told) x).2
 | [],_,_,_,h=>by simp at h
 | y :: xs,told,0,x,h=>by cases h; rfl
 | y :: xs,told,i+1,x,h=>outs_get (xs:=xs) (told:=stD k n ps told y) h
theorem outs_len {k n:Int} {ps:List T}:∀ (xs told:List Nat),(outs k n ps told xs).length=xs.length
 | [],_=>rfl
 | x :: xs,told=>by rw [outs,List.length_cons,outs_len xs,List.length_cons]
theorem pNe_self {x:T} {q:Rt→Prop} (h1:plainT x=true) (h3:dep x≤100) (hq:q (.vw (.bl false))):pNe x x q:=by
 have e:=eqT_refl x h1
 have hq':q (.vw (.bl (!eqT x x))):=by rw [e]; exact hq
 cases x <;> first | exact ⟨h1,h1,h3,hq'⟩ | (simp only [pNe,decide_true,Bool.not_true]; exact hq)
theorem var_ne {ρ:En} {i:Nat} {x y:T} {Q:Rt→Prop} (e:ρ[i]?=some (some (x,false))) (h:pNe y x Q):fVarR i ρ fun z=>pNe y z Q:=by
 unfold fVarR
 rw [e]
 exact h
theorem come_dep {k:Int} {xs:List T} (hp:Pts k xs):dep (comeD k xs)≤100:=by
 unfold comeD
 split
 · exact Nat.zero_le _
 split
 · exact Nat.zero_le _
 split
 · have:=(pts_plain hp).2; simp only [dep]; omega
 · exact Nat.zero_le _
def gRnd (ts:List T) (q:Rt→Prop):Prop:=∃ (k sp n:Int) (ps:List T) (left:List Nat) (more:List T),ts=[.lst ps,nT left,.lst ((rndD k n ps left []).2 ++ more),cC k sp,cW k n ps]∧Pts k ps∧Ns ps left∧0≤n∧n < 10 ^ 9∧more.length≤900∧q (.vw (nT (rndD k n ps left []).1))
section
variable {P:Program} {w:World} {K:PySem.W.Frag} {mg:Str→Option Value} {base:Heap}
abbrev n_round:List Str:=["_law_parts","_law_left","_law_tries","_law_come","_law_wanted","_law_behind","_law_number","_law_told","_law_others","_law_came"]
theorem sc_round:FnScope n_round ["_law_parts","_law_left","_law_tries","_law_come","_law_wanted"] (defScope s_round):=⟨rfl,rfl,rfl,by decide +kernel,rfl,by decide +kernel,by decide +kernel⟩
theorem nd_round_c0:(n_round ++ (["_law_k"]:List Str)).Nodup:=by decide +kernel
theorem nd_round_c1:(n_round ++ (["_law_k"]:List Str)).Nodup:=by decide +kernel
theorem ok_round {f:Addr} {fd:FuncData} (D:Df K mg "_law_round" s_round ["_law_parts","_law_left","_law_tries","_law_come","_law_wanted"] f fd) (M:MgA mg):Cal P w K mg base "_law_round" ["_law_parts","_law_left","_law_tries","_law_come","_law_wanted"] 2 (spP K 5 gRnd):=by
 refine D.cal (fnP D.F sc_round rfl fun cdv A outer s H E Ox hr ts q hG=>?_)
 have nd:=sc_round.nd
 have hu:=Room.u101 hr
 have np:∀ {i:Nat},NotPar ⟨H,[],Ox⟩ i:=np0
 have npf:∀ {is:List Nat},∀ i∈is,NotPar ⟨H,[],Ox⟩ i:=fun i _=>np0
 have C_come:=ok_come (P:=P) (w:=w) (K:=K) (base:=base) M
 have C_wanted:=ok_wanted (P:=P) (w:=w) (K:=K) (base:=base) M
 refine ⟨_,(vss_cons (vs_set (i:=5) nd rfl (Or.inl rfl) (VP.vx (vp_callTy call_list_of callT_list (by rfl) M.list b_list (var_cons (vr_var 1) var_nil))) np)
   (vss_cons (vs_if (vc_lt (VP.vr (vp_callB call_lenU callT_len (by rfl) M.len PySem.boot_len (var_cons (vr_var 2) var_nil))) (VP.vr (vp_callB call_lenU callT_len (by rfl) M.len PySem.boot_len (var_cons (vr_var 1) var_nil))))
     (vss_one (vs_ret (VP.vx vp_non)))
     vss_nil)
   (vss_cons (vs_for PassesOwn.never rfl (vi_zip (by rfl) M.zip (VP.ve (vp_sliceS (vr_var 1) vo_none vo_none (vo_some (VP.vr (vp_neg (VP.vr vp_int)))))) (ve_var 2)) (vg_tup (n:=2) rfl (vgs_cons (vg_name (i:=6) nd rfl (Or.inr rfl) np) (vgs_cons (vg_name (i:=7) nd rfl (Or.inl rfl) np) vgs_nil)))
     (vss_cons (vs_if (VW.vc (vw_or (vc_not (vc_val (vp_inst inst_tuple (by rfl) M.isinstance (by rfl) M.tuple b_tuple (vr_var 7)))) (vw_or (vc_ne hu (VP.vr (vp_callB call_lenU callT_len (by rfl) M.len PySem.boot_len (var_cons (vr_var 7) var_nil))) (VP.vr vp_int)) (vw_or (vc_not (vc_val (vp_inst inst_bool (by rfl) M.isinstance (by rfl) M.bool b_bool (VP.vr (vp_ix (vr_var 7) (VP.vr vp_int)))))) (vw_or1 (vc_val (vp_inst inst_bool (by rfl) M.isinstance (by rfl) M.bool b_bool (VP.vr (vp_ix (vr_var 7) (VP.vr vp_int))))))))))
       (vss_one (vs_ret (VP.vx vp_non)))
       vss_nil)
     (vss_cons (vs_comp (i:=8) (ts:=["_law_k"]) nd rfl (Or.inl rfl) rfl (by rfl) (vi_seq (ve_var 5)) (fun _ _ _ _ _ _=>(vg_name (i:=10) nd_round_c0 rfl (Or.inl rfl) np)) (fun _ _ _ _ _ _=>(vcs_one (vc_ne hu (vr_var 10) (vr_var 6)))) (fun _ _ _ _ _ _=>(ve_var 10)) np)
     (vss_cons (vs_set (i:=9) nd rfl (Or.inl rfl) (vx_callN 3 C_come (hr.mono (by decide)) (vp_comp (ts:=["_law_k"]) rfl (by rfl) (vi_seq (ve_var 8)) (fun _ _ _ _ _ _=>(vg_name (i:=10) nd_round_c1 rfl (Or.inl rfl) np)) (fun _ _ _ _ _ _=>vcs_nil) (fun _ _ _ _ _ _=>(VP.ve (vp_ix (vr_var 0) (vr_var 10)))))) np)
     (vss_cons (vs_if (VW.vc (vw_or (vc_ne hu (VP.vr (vp_ix (vr_var 7) (VP.vr vp_int))) (vr_var 6)) (vw_or (vc_ne hu (VP.vr (vp_ix (vr_var 7) (VP.vr vp_int))) (vr_var 9)) (vw_or1 (vc_ne hu (VP.vr (vp_ix (vr_var 7) (VP.vr vp_int))) (VP.vr (vp_callQ 4 C_wanted (hr.mono (by decide)) (ve_var 9))))))))
       (vss_one (vs_ret (VP.vx vp_non)))
       vss_nil)
     (vss_one (vs_if (vc_val (vp_ix (vr_var 7) (VP.vr vp_int)))
       (vss_one (vs_set (i:=5) nd rfl (Or.inl rfl) (VP.vx (VE.vp (ve_var 8))) np))
       vss_nil)))))))
   (vss_one (vs_ret (VP.vx (VE.vp (ve_var 5)))))))),fun _=>?_⟩
 obtain ⟨k,sp,n,ps,left,more,rfl,hp,hn,n0,n9,hm,hq⟩:=hG
 have hl:=hn.l
 rw [rnd_eq] at hq
 have e2:(rndD k n ps left []).2=outs k n ps left left.reverse:=by rw [rnd_eq]; exact List.nil_append _
 rw [e2]
 have hlen:(left.map fun (i:Nat)=>T.int (i:Int)).length=left.length:=List.length_map _
 refine iteN (decide_eq_false (by rw [hlen,List.length_append,outs_len,List.length_reverse]; omega)) ?_
 refine ⟨by decide,?_⟩
 show LoopW (zipT (pickI (left.map fun (i:Nat)=>T.int (i:Int)) (stpI none none (some (-1)) (left.map fun (i:Nat)=>T.int (i:Int)).length)) (outs k n ps left left.reverse ++ more)) _ _ _ _
 rw [pick_rev,← List.map_reverse]
 have hz:(zipT (left.reverse.map fun (i:Nat)=>T.int (i:Int)) (outs k n ps left left.reverse ++ more)).length=left.reverse.length:=by rw [zipT,List.length_zipWith,List.length_map,List.length_append,outs_len]; omega
 refine ⟨fun i ρ=>∃ (b6 b7 b8 b9:Option (T×Bool)) (told:List Nat),told=(left.reverse.take i).foldl (stD k n ps) left∧ρ=[vw (.lst ps),vw (nT left),vw (.lst (outs k n ps left left.reverse ++ more)),vw (cC k sp),vw (cW k n ps),vw (nT told),b6,b7,b8,b9]∧Ns ps told,
  ⟨none,none,none,none,left,rfl,rfl,hn⟩,fun i t ρ' e ⟨b6,b7,b8,b9,told,et,eρ,ht⟩=>?_,fun ρ' ⟨b6,b7,b8,b9,told,et,eρ,ht⟩=>?_⟩
 · subst eρ
   have hi:i < left.reverse.length:=by rw [← hz]; exact (List.getElem?_eq_some_iff.mp e).1
   obtain ⟨x,hx⟩:∃ x,left.reverse[i]?=some x:=⟨_,List.getElem?_eq_getElem hi⟩
   have et2:(left.reverse.take (i+1)).foldl (stD k n ps) left=stD k n ps told x:=by rw [List.take_add_one,hx,List.foldl_append,← et]; rfl
   have e':t = .tup [.int (x:Int),(tryD k n ps told x).2]:=by
    rw [zipT,List.getElem?_zipWith,List.getElem?_map,hx,List.getElem?_append_left (by rw [outs_len]; exact hi),outs_get hx,← et] at e
    exact (Option.some.inj e).symm
   subst e'
   have hf:=ht.filter (fun i=>i != x)
   have hs:=sel_pts hp hf.l hf.lt
   refine ⟨rfl,rfl,rfl,_,L2.atI_nat (j:=2) rfl,rfl,_,L2.atI_nat (j:=0) rfl,rfl,?_⟩
   refine ⟨rfl,le8 (by rw [List.length_map]; have:=ht.l; omega),?_⟩
   show wComp _ _ _ _ (told.map _) _
   refine wComp_filL (f:=fun (i:Nat)=>T.int (i:Int)) (u:=fun (i:Nat)=>T.int (i:Int)) (p:=fun i=>i != x) (fun _ _ _ _ _=>trivial) (fun j hj kk ss hif=>?_) ?_
   · have e:(!decide ((j:Int)=(x:Int)))=(j != x):=by rw [Bool.eq_iff_iff]; simp only [Bool.not_eq_true',decide_eq_false_iff_not,bne_iff_ne]; omega
     show if (!decide ((j:Int)=(x:Int)))=true then kk (.int (j:Int)) else ss
     rw [e]
     exact hif
   refine ⟨_,rfl,rfl,rfl,le8 (by rw [List.length_map]; have:=hf.l; omega),?_⟩
   show wComp _ _ _ _ ((told.filter fun i=>i != x).map _) _
   refine wComp_mapL (f:=fun (i:Nat)=>T.int (i:Int)) (u:=fun i=>ps.getD i .non) (fun i hi r hr=>?_) ?_
   · have h:=hf.lt i hi
     rw [List.getD_eq_getElem?_getD,List.getElem?_eq_getElem h] at hr
     exact ⟨_,L2.atI_nat (List.getElem?_eq_getElem h),hr⟩
   refine ⟨_,rfl,(pts_plain hs).1,k,sp,_,rfl,rfl,hs,fun us=>?_⟩
   refine ⟨_,L2.atI_nat (j:=0) rfl,iteN (by simp) ?_⟩
   refine ⟨_,L2.atI_nat (j:=1) rfl,?_⟩
   refine var_ne (y:=cm k ps told x) (x:=cm k ps told x) rfl ?_
   refine pNe_self (come_plain hs) (come_dep hs) ?_
   refine ⟨_,L2.atI_nat (j:=2) rfl,_,rfl,by show (plainTs ps && true)=true; rw [(pts_plain hp).1]; rfl,come_plain hs,k,n,ps,_,rfl,rfl,hs,hp,n0,n9,?_⟩
   refine iteN (c:=!decide (wantD k n ps (cm k ps told x)=wantD k n ps (cm k ps told x))) (by rw [decide_eq_true rfl]; rfl) ?_
   refine ⟨_,L2.atI_nat (j:=2) rfl,?_⟩
   by_cases z:wantD k n ps (cm k ps told x)=true
   · refine iteB z ?_
     have e3:stD k n ps told x=told.filter fun i=>i != x:=by
      unfold stD tryD
      dsimp only
      rw [if_pos z]
     rw [e3] at et2
     exact ⟨_,_,_,_,_,et2.symm,rfl,hf⟩
   · refine iteN ((Bool.not_eq_true _).mp z) ?_
     have e3:stD k n ps told x=told:=by
      unfold stD tryD
      dsimp only
      rw [if_neg z]
     rw [e3] at et2
     exact ⟨_,_,_,_,_,et2.symm,rfl,ht⟩
 · subst eρ
   rw [hz,List.take_length] at et
   subst et
   exact hq
end
end K76
namespace K76
open PySem L2 VT CLO
def gRight (ts:List T) (q:Rt→Prop):Prop:=∃ (k sp n:Int) (ps:List T),ts=[.lst ps,.tup [.lst (sel ps (fewD k n ps).1),.lst (fewD k n ps).2],cC k sp,cW k n ps]∧Pts k ps∧0≤n∧n < 10 ^ 9∧q (.vw (.bl true))
theorem rnd_app {k n:Int} {ps:List T} (left:List Nat) (tr:List T):rndD k n ps left tr=((rndD k n ps left []).1,tr ++ (rndD k n ps left []).2):=by rw [rnd_eq,rnd_eq left []]; rfl
theorem it_app {k n:Int} {ps:List T}:∀ (f:Nat) (left:List Nat) (tr:List T),itD k n ps f left tr=((itD k n ps f left []).1,tr ++ (itD k n ps f left []).2)
 | 0,left,tr=>by simp [itD]
 | f+1,left,tr=>by
   have e1:=rnd_app (k:=k) (n:=n) (ps:=ps) left tr
   rw [itD,itD,e1]
   dsimp only
   by_cases z:(rndD k n ps left []).1=left
   · rw [if_pos z,if_pos z]
   · rw [if_neg z,if_neg z,it_app f _ (tr ++ _),it_app f _ (rndD k n ps left []).2]
     dsimp only
     rw [List.append_assoc]
theorem few_len {k n:Int} {ps:List T}:∀ (f:Nat) (left:List Nat) (tr:List T),(itD k n ps f left tr).2.length≤tr.length+f * left.length
 | 0,left,tr=>by simp [itD]
 | f+1,left,tr=>by
   obtain ⟨g1,_,g3⟩:=rnd_sub (k:=k) (n:=n) (ps:=ps) left tr
   rw [itD]
   by_cases z:(rndD k n ps left tr).1=left
   · rw [if_pos z,g3,Nat.add_mul]; omega
   · rw [if_neg z]
     have h:=few_len (k:=k) (n:=n) (ps:=ps) f (rndD k n ps left tr).1 (rndD k n ps left tr).2
     have g1:=g1.resolve_left z
     have:f * (rndD k n ps left tr).1.length≤f * left.length:=Nat.mul_le_mul_left _ (by omega)
     rw [Nat.add_mul]; omega
theorem cut_app (xs ys:List T):cutT (xs ++ ys) (some (xs.length:Int)) none=ys:=by
 unfold cutT
 rw [HT.sIx_nat,HT.sIx_none,Nat.min_eq_left (by rw [List.length_append]; omega),List.drop_left,List.length_append,Nat.add_sub_cancel_left,List.take_length]
section
variable {P:Program} {w:World} {K:PySem.W.Frag} {mg:Str→Option Value} {base:Heap}
abbrev n_right:List Str:=["_law_parts","_law_told","_law_come","_law_wanted","_law_left","_law_tries","_law_more","_law_behind"]
theorem sc_right:FnScope n_right ["_law_parts","_law_told","_law_come","_law_wanted"] (defScope s_right):=⟨rfl,rfl,rfl,by decide +kernel,rfl,by decide +kernel,by decide +kernel⟩
theorem nd_right_c0:(n_right ++ (["_law_k"]:List Str)).Nodup:=by decide +kernel
theorem ok_right {f:Addr} {fd:FuncData} (D:Df K mg "_law_right" s_right ["_law_parts","_law_told","_law_come","_law_wanted"] f fd) (M:MgA mg) (C_round:Cal P w K mg base "_law_round" ["_law_parts","_law_left","_law_tries","_law_come","_law_wanted"] 2 (spP K 5 gRnd)):Cal P w K mg base "_law_right" ["_law_parts","_law_told","_law_come","_law_wanted"] 3 (spP K 4 gRight):=by
 refine D.cal (fnP D.F sc_right rfl fun cdv A outer s H E Ox hr ts q hG=>?_)
 have nd:=sc_right.nd
 have hu:=Room.u101 hr
 have np:∀ {i:Nat},NotPar ⟨H,[],Ox⟩ i:=np0
 have npf:∀ {is:List Nat},∀ i∈is,NotPar ⟨H,[],Ox⟩ i:=fun i _=>np0
 refine ⟨_,(vss_cons (vs_if (VW.vc (vw_or (vc_not (vc_val (vp_inst inst_tuple (by rfl) M.isinstance (by rfl) M.tuple b_tuple (vr_var 1)))) (vw_or (vc_ne hu (VP.vr (vp_callB call_lenU callT_len (by rfl) M.len PySem.boot_len (var_cons (vr_var 1) var_nil))) (VP.vr vp_int)) (vw_or (vc_not (vc_val (vp_inst inst_list (by rfl) M.isinstance (by rfl) M.list b_list (VP.vr (vp_ix (vr_var 1) (VP.vr vp_int)))))) (vw_or1 (vc_not (vc_val (vp_inst inst_list (by rfl) M.isinstance (by rfl) M.list b_list (VP.vr (vp_ix (vr_var 1) (VP.vr vp_int)))))))))))
    (vss_one (vs_ret (VP.vx vp_bl)))
    vss_nil)
   (vss_cons (vs_set (i:=4) nd rfl (Or.inl rfl) (VP.vx (vp_lrange rfl (by rfl) M.list (by rfl) M.range (VP.vr (vp_callB call_lenU callT_len (by rfl) M.len PySem.boot_len (var_cons (vr_var 0) var_nil))))) np)
   (vss_cons (vs_set (i:=5) nd rfl (Or.inl rfl) (VP.vx (vp_callTy call_list_of callT_list (by rfl) M.list b_list (var_cons (VP.vr (vp_ix (vr_var 1) (VP.vr vp_int))) var_nil))) np)
   (vss_cons (vs_set (i:=6) nd rfl (Or.inl rfl) (VP.vx vp_bl) np)
   (vss_cons (vs_while PassesOwn.never (vc_val (VE.vp (ve_var 6)))
     (vss_cons (vs_set (i:=7) nd rfl (Or.inl rfl) (VP.vx (vp_callC C_round hr (va_cons (ve_var 0) (va_cons (ve_var 4) (va_cons (ve_var 5) (va_cons (ve_var 2) (va_cons (ve_var 3) va_nil))))))) np)
     (vss_cons (vs_if (vc_is (vr_var 7) (VP.vr vp_non))
       (vss_one (vs_ret (VP.vx vp_bl)))
       vss_nil)
     (vss_cons (vs_set (i:=5) nd rfl (Or.inl rfl) (VP.vx (vp_slice (vr_var 5) (vo_some (VP.vr (vp_callB call_lenU callT_len (by rfl) M.len PySem.boot_len (var_cons (vr_var 4) var_nil)))) vo_none)) np)
     (vss_cons (vs_set (i:=6) nd rfl (Or.inl rfl) (VP.vx (vp_lt (VP.vr (vp_callB call_lenU callT_len (by rfl) M.len PySem.boot_len (var_cons (vr_var 7) var_nil))) (VP.vr (vp_callB call_lenU callT_len (by rfl) M.len PySem.boot_len (var_cons (vr_var 4) var_nil))))) np)
     (vss_one (vs_set (i:=4) nd rfl (Or.inl rfl) (VP.vx (VE.vp (ve_var 7))) np)))))))
   (vss_one (vs_ret (VP.vx (vp_and (vp_eq hu (vr_var 5) (VP.vr (vp_lst va_nil))) (vp_one (vp_eq hu (VP.vr (vp_ix (vr_var 1) (VP.vr vp_int))) (VP.vr (vp_comp (ts:=["_law_k"]) rfl (by rfl) (vi_seq (ve_var 4)) (fun _ _ _ _ _ _=>(vg_name (i:=8) nd_right_c0 rfl (Or.inl rfl) np)) (fun _ _ _ _ _ _=>vcs_nil) (fun _ _ _ _ _ _=>(VP.ve (vp_ix (vr_var 0) (vr_var 8))))))))))))))))),fun _=>?_⟩
 obtain ⟨k,sp,n,ps,rfl,hp,n0,n9,hq⟩:=hG
 have hl:=hp.l
 refine ⟨rfl,_,L2.atI_nat (j:=0) rfl,rfl,_,L2.atI_nat (j:=1) rfl,rfl,ps.length,rfl,by omega,_,L2.atI_nat (j:=1) rfl,?_⟩
 refine ⟨fun m ρ=>∃ (left:List Nat) (rest:List T) (b:Bool) (b7:Option (T×Bool)),ρ=[vw (.lst ps),vw (.tup [.lst (sel ps (fewD k n ps).1),.lst (fewD k n ps).2]),vw (cC k sp),vw (cW k n ps),vw (nT left),vw (.lst rest),vw (.bl b),b7]∧Ns ps left∧rest.length≤900∧((b=true∧m=left.length+1∧itD k n ps (left.length+1) left []=((fewD k n ps).1,rest))∨(b=false∧rest=[]∧left=(fewD k n ps).1)),
  ⟨ps.length+1,List.range ps.length,(fewD k n ps).2,true,none,rfl,ns_range hp,?_,.inl ⟨rfl,by rw [List.length_range],by rw [List.length_range]; rfl⟩⟩,?_⟩
 · have:=few_len (k:=k) (n:=n) (ps:=ps) (ps.length+1) (List.range ps.length) []
   have h2:(ps.length+1) * (List.range ps.length).length≤11 * 10:=Nat.mul_le_mul (by omega) (by rw [List.length_range]; exact hl)
   unfold fewD
   simp only [List.length_nil] at this
   omega
 rintro m ρ ⟨left,rest,b,b7,rfl,hn,hr2,hm⟩
 rcases hm with ⟨rfl,em,e4⟩ | ⟨rfl,rfl,e4⟩
 · obtain ⟨g1,g2,g3⟩:=rnd_sub (k:=k) (n:=n) (ps:=ps) left []
   have g2:=g2 hn
   simp only [List.length_nil,Nat.zero_add] at g3
   obtain ⟨more,er,hfin⟩:∃ more,rest=(rndD k n ps left []).2 ++ more∧(((rndD k n ps left []).1.length < left.length∧itD k n ps ((rndD k n ps left []).1.length+1) (rndD k n ps left []).1 []=((fewD k n ps).1,more))∨(¬ (rndD k n ps left []).1.length < left.length∧more=[]∧(rndD k n ps left []).1=(fewD k n ps).1)):=by
    rw [itD] at e4
    by_cases z:(rndD k n ps left []).1=left
    · rw [if_pos z] at e4
      exact ⟨[],by rw [List.append_nil,e4],.inr ⟨by rw [z]; omega,rfl,by rw [e4]⟩⟩
    · have g1:=g1.resolve_left z
      rw [if_neg z,it_app,it_fuel _ _ _ g1] at e4
      refine ⟨_,(congrArg Prod.snd e4).symm,.inl ⟨g1,?_⟩⟩
      rw [← congrArg Prod.fst e4]
   subst er
   have hml:more.length≤900:=by rw [List.length_append] at hr2; omega
   refine ⟨rfl,k,sp,n,ps,left,more,rfl,hp,hn,n0,n9,hml,?_⟩
   have e5:cutT ((rndD k n ps left []).2 ++ more) (some ((left.map fun (i:Nat)=>T.int (i:Int)).length:Int)) none=more:=by
    rw [List.length_map,← g3]; exact cut_app _ _
   have e6:decide ((((rndD k n ps left []).1.map fun (i:Nat)=>T.int (i:Int)).length:Int) < ((left.map fun (i:Nat)=>T.int (i:Int)).length:Int))=decide ((rndD k n ps left []).1.length < left.length):=by
    rw [List.length_map,List.length_map]; exact decide_eq_decide.mpr (by omega)
   rcases hfin with ⟨h1,h2⟩ | ⟨h1,h2,h3⟩
   · exact ⟨(rndD k n ps left []).1.length+1,by omega,_,_,_,_,rfl,g2,by rw [e5]; exact hml,.inl ⟨by rw [e6]; exact decide_eq_true h1,rfl,by rw [e5]; exact h2⟩⟩
   · exact ⟨0,by omega,_,_,_,_,rfl,g2,by rw [e5]; exact hml,.inr ⟨by rw [e6]; exact decide_eq_false h1,by rw [e5]; exact h2,h3⟩⟩
 · subst e4
   have hs:=sel_pts hp hn.l hn.lt
   have hnl:=hn.l
   refine ⟨Nat.zero_le _,rfl,rfl,by decide,_,L2.atI_nat (j:=0) rfl,rfl,le8 (by rw [List.length_map]; omega),?_⟩
   show wComp _ _ _ _ ((fewD k n ps).1.map _) _
   refine wComp_mapL (f:=fun (i:Nat)=>T.int (i:Int)) (u:=fun i=>ps.getD i .non) (fun i hi r hr=>?_) ?_
   · have h:=hn.lt i hi
     rw [List.getD_eq_getElem?_getD,List.getElem?_eq_getElem h] at hr
     exact ⟨_,L2.atI_nat (List.getElem?_eq_getElem h),hr⟩
   · obtain ⟨p1,p2⟩:=pts_plain hs
     refine ⟨p1,p1,(show dep (.lst (sel ps (fewD k n ps).1))≤100 by simp only [dep]; omega),?_⟩
     have:=eqT_refl (.lst (sel ps (fewD k n ps).1)) p1
     show q (.vw (.bl (eqT (.lst (sel ps (fewD k n ps).1)) (.lst (sel ps (fewD k n ps).1)))))
     rw [this]
     exact hq
end
end K76
namespace EX
open PySem PySem.Spec PySem.Calls PyProof.Rows L2 VT
open PySem.W (findIn typeIn Looks InstAt)
section
variable {X:Cx} {S f:Addr} {ts:List Addr} {fd:FuncData} {ps:List Str} {k jn:Nat} {n cl fx:Str} {sp:Sp} {a:Expr} {es:List Expr} {b0:Stmt} {body:List Stmt} {p1 p2 p3 p4 p8 pos:Pos} {ta:TA}
end
section
variable {X:Cx} {Z:Zc} {S f:Addr} {ts:List Addr} {fd:FuncData} {ps:List Str} {k jn m:Nat} {n cl fx:Str} {a:Expr} {es:List Expr} {b0:Stmt} {body:List Stmt} {p1 p2 p3 p4 p8 pos:Pos} {G:WT→List T→(Rt→Prop)→Prop} {g:FA} {gb:Addr→Addr→Option Int→FS}
end
section
variable {X:Cx}
end
section
variable {X:Cx} {Z:Zc} {W:WT} {C:Addr} {x:Str}
end
section
variable {P:Program} {w:World} {K:PySem.W.Frag} {mg:Str→Option Value} {base:Heap}
end
end EX
namespace K76
open PySem L2 VT CLO EX
def gFewE (cP:Addr) (W:WT) (ts:List T) (q:Rt→Prop):Prop:=∃ (k sp n:Int) (ps:List T),ts=[.lst ps,cC k sp,cW k n ps]∧Pts k ps∧0≤n∧n < 10 ^ 9∧wantD k n ps (comeD k ps)=false∧W cP none
section
variable {P:Program} {w:World} {K:PySem.W.Frag} {mg:Str→Option Value} {base:Heap} {cNoFault:Addr}
theorem ok_fewestE {f:Addr} {fd:FuncData} (D:Df K mg "fewest" s_fewest ["parts","ending","wanted"] f fd) (M:MgA mg) (x0_NoFault:X0 K mg "NoFault" cNoFault) (C_copied:Cal P w K mg base "copied" ["thing"] 4 (spP K 1 (gCop 3))) (C_is_wanted:Cal P w K mg base "is_wanted" ["wanted","came"] 5 (spP K 2 gIsW)) (C_came_of_parts:Cal P w K mg base "came_of_parts" ["whole","numbers","ending"] 5 (spP K 3 gCame)):CalE P w K mg base "fewest" ["parts","ending","wanted"] 7 (spE K 3 (gFewE cNoFault)):=by
 refine ⟨f,fd,D.m,D.F.kp,D.b,fnE D.F sc_fewest rfl fun cdv A outer s H E Ox hr W ts q hG hw=>?_⟩
 have nd:=sc_fewest.nd
 have hu:=Room.u101 hr
 have np:∀ {i:Nat},NotPar ⟨H,[],Ox⟩ i:=np0
 refine ⟨_,(vss_cons (vs_set (i:=3) nd rfl (Or.inr rfl) (VP.vx (vp_callC C_copied hr (va_cons (ve_var 0) va_nil))) np)
   (vss_cons (vs_set (i:=4) nd rfl (Or.inl rfl) (VP.vx (vp_lrange rfl (by rfl) M.list (by rfl) M.range (VP.vr (vp_callB call_lenU callT_len (by rfl) M.len PySem.boot_len (var_cons (vr_var 3) var_nil))))) np)
   (vss_cons (vs_if (vc_not (vc_val (vp_callC C_is_wanted hr (va_cons (ve_var 2) (va_cons (VP.ve (vp_callC C_came_of_parts hr (va_cons (ve_var 3) (va_cons (ve_var 4) (va_cons (ve_var 1) va_nil))))) va_nil)))))
     (vss_one (vs_raiseC hw x0_NoFault (by rfl)))
     vss_nil)
   vss_never))),fun _=>?_⟩
 obtain ⟨k,sp,n,ps,rfl,hp,n0,n9,hwt,hW⟩:=hG
 have hl:=hp.l
 refine ⟨rfl,_,rfl,lst_lv hp,ps.length,rfl,by omega,rfl,k,sp,ps,List.range ps.length,rfl,hp,(ns_range hp).l,(ns_range hp).lt,rfl,k,n,ps,ps,?_,hp,hp,n0,n9,?_⟩
 · show [cW k n ps,(cpR (comeD k (sel ps (List.range ps.length)))).t]=_
   rw [cpR_t,sel_all]
 · exact iteB (c:=!wantD k n ps (comeD k ps)) (by rw [hwt]; rfl) hW
end
end K76
namespace EX
open PySem PySem.Spec PySem.Calls PyProof.Rows L2 VT
section
variable {X:Cx} {Z:Zc} {S f:Addr} {ts:List Addr} {fd:FuncData} {ps:List Str} {k iz jn i1 i2 i3:Nat} {z n cl fx y1 y2 y3:Str} {p1 p2 p3 p4 p5 p6 p7 p8 q1 q2 q3 pos:Pos} {rest:List Stmt} {G:WT→List T→(Rt→Prop)→Prop} {g1:FS} {g2:Addr→Addr→Int→FS} {g3:Addr→Addr→FS}
def gTry4 (K:PySem.W.Frag) (S:Addr) (i1 i2 i3 iz jn:Nat) (G:WT→List T→(Rt→Prop)→Prop) (g1:FS) (g2:Addr→Addr→Int→FS) (g3:Addr→Addr→FS):FS:=fun d ρ=>noOwn ρ∧∃ t1 t2 t3 W,ρ[i1]?=some (some (t1,false))∧ρ[i2]?=some (some (t2,false))∧ρ[i3]?=some (some (t3,false))∧G W [t1,t2,t3] (fun _=>g1 d ρ) ∧
 ∀ C p,W C p→(∃ tl,XC K C tl∧(C=S∨S∈tl))∧XF K C∧∀ e,gX g2 g3 e C p d (((ρ.set jn (some (.ob e,false))).set iz (some (.ob e,false))).set jn none)
theorem vss_try4 (hP:Z.P=[]) (st:X.stack=X.env :: X.outer∧X.env.frame=some X.env.locals) (F:FnOk X.prog X.w X.K X.mg X.base (CX1 X.prog X.w) k f fd ps (spE X.K 3 G)) (hr:Room k X.A) (hg:Gl X fx) (hm:X.mg fx=some (.ref f)) (hk:PySem.W.keepIn X.K (.ref f)=true) (hb:Binds X.K fd ps [])
  (hgS:Gl X cl) (hmS:X.mg cl=some (.ref S)) (xs:XC X.K S ts) (hall:∀ y,X.fn y=true) (hex:X.ex=[])
  (hn:VSs X Z rest g1) (hx:∀ e C dd n H0,Ex X.K H0 e C dd (some n)→VSs X ⟨H0,[],Z.Ox⟩ rest (g2 e C n)) (hx0:∀ e C dd H0,Ex X.K H0 e C dd none→VSs X ⟨H0,[],Z.Ox⟩ rest (g3 e C))
  (hN:X.N.Nodup) (hi1:X.N[i1]?=some y1:=by rfl) (hi2:X.N[i2]?=some y2:=by rfl) (hi3:X.N[i3]?=some y3:=by rfl) (hiz:X.N[iz]?=some z:=by rfl) (hjn:X.N[jn]?=some n:=by rfl) (v1:Vis X.env.scope y1:=by first | exact Or.inl rfl | exact Or.inr (Or.inl rfl)) (v2:Vis X.env.scope y2:=by first | exact Or.inl rfl | exact Or.inr (Or.inl rfl)) (v3:Vis X.env.scope y3:=by first | exact Or.inl rfl | exact Or.inr (Or.inl rfl)) (lz:Loc X.env.scope z:=by exact Or.inl rfl) (ln:X.env.scope.names.lookup n=some .local:=by rfl)
  (d1:(fx == ("__debug__" : Str))=false:=by decide) (d2:(cl == ("__debug__" : Str))=false:=by decide) (d3:(n == ("__debug__" : Str))=false:=by decide) (d4:(n == ("__classdict__" : Str))=false:=by decide) (d51:(y1 == ("__debug__" : Str))=false:=by decide) (d61:(y1 == ("__classdict__" : Str))=false:=by decide) (d52:(y2 == ("__debug__" : Str))=false:=by decide) (d62:(y2 == ("__classdict__" : Str))=false:=by decide) (d53:(y3 == ("__debug__" : Str))=false:=by decide) (d63:(y3 == ("__classdict__" : Str))=false:=by decide)
  (he:starEach [.Name y1 q1,.Name y2 q2,.Name y3 q3] X.env=(false,eval (.Name y1 q1) X.env) :: starEach [.Name y2 q2,.Name y3 q3] X.env:=by rfl) (he2:starEach [.Name y2 q2,.Name y3 q3] X.env=(false,eval (.Name y2 q2) X.env) :: starEach [.Name y3 q3] X.env:=by rfl) (he3:starEach [.Name y3 q3] X.env=(false,eval (.Name y3 q3) X.env) :: starEach [] X.env:=by rfl) (hpl:(backTo p2 (starEach [.Name y2 q2,.Name y3 q3] X.env)).any (·.1)=false:=by rfl)
  (hs1:swapsWith (.Call (.Name fx p1) [.Name y1 q1,.Name y2 q2,.Name y3 q3] [] p2) none p3.line X.env=pure false:=by rfl) (hs2:swapsWith (.Name n p5) (some (.Name z p6)) p7.line X.env=pure false:=by rfl) :
  VSs X Z (.Try [.Expr (.Call (.Name fx p1) [.Name y1 q1,.Name y2 q2,.Name y3 q3] [] p2) p3] [.ExceptHandler (some (.Name cl p4)) (some n) [.Assign [.Name z p6] (.Name n p5) p7] p8] [] [] pos :: rest) (gTry4 X.K S i1 i2 i3 iz jn G g1 g2 g3):=by
 refine .mk fun tm pins s σ H D J ⟨ρ,O,d,I,⟨no,t1,t2,t3,W,ht1,ht2,ht3,hG,hW⟩,Fn⟩=>?_
 have pt:=ps_try2 (X:=X) (iz:=iz) (jn:=jn) (p1:=p1) (p2:=p2) (p3:=p3) (p4:=p4) (p5:=p5) (p6:=p6) (p7:=p7) (p8:=p8) (pos:=pos) (a:=.Name y1 q1) (es:=[.Name y2 q2,.Name y3 q3]) (ta:=tCons (tVar i1) (tCons (tVar i2) (tCons (tVar i3) tNil))) st F hr hg hm hk hb (fun E1=>pa_cons (X:=X.wish E1) (pe_var (X:=X.wish E1) hi1 v1 d51 d61) (pa_cons (X:=X.wish E1) (pe_var (X:=X.wish E1) hi2 v2 d52 d62) (pa_cons (X:=X.wish E1) (pe_var (X:=X.wish E1) hi3 v3 d53 d63) pa_nil he3) he2) he) hN hiz hjn lz ln hgS hmS xs hall hex d1 d2 d3 d4 he hpl hs1 hs2
 have R1:∀ pins s σ' H',Inv X pins σ' H' s→((lS X Z tm g1 D σ' H')∨∃ e C dd p H0,Ex X.K H0 e C dd p∧lS X ⟨H0,[],Z.Ox⟩ tm (gX g2 g3 e C p) D σ' H')→wpAny (model X.prog X.w) X.A (execs rest X.env) (SP X pins D) X.xe s:=fun pins s σ' H' J' h=>by
  rcases h with h | ⟨e,C,dd,p,H0,xh,h⟩
  · exact hn tm pins s σ' H' D J' h
  · cases p with
    | some n=>exact hx e C dd n H0 xh tm pins s σ' H' D J' h
    | none=>exact hx0 e C dd H0 xh tm pins s σ' H' D J' h
 refine wpAny_execs_cons (thn (pt pins s σ H { D with nx:=fun σ' H'=>(lS X Z tm g1 D σ' H')∨∃ e C dd p H0,Ex X.K H0 e C dd p∧lS X ⟨H0,[],Z.Ox⟩ tm (gX g2 g3 e C p) D σ' H' } J ?_) fun fl s1 q=>?_)
 · obtain ⟨o1,s1',h31,h41,rfl,v1',rfl,h51⟩:=I.sl i1 _ ht1
   obtain ⟨o2,s2',h32,h42,rfl,v2',rfl,h52⟩:=I.sl i2 _ ht2
   obtain ⟨o3,s3',h33,h43,rfl,v3',rfl,h53⟩:=I.sl i3 _ ht3
   refine ⟨v1',h41,v2',h42,v3',h43,W,⟨[t1,t2,t3],[],av Z O,fun _ _=>g1 d ρ,List.nodup_nil,fun _ z=>absurd z List.not_mem_nil,I.avH,args_views rfl (AtL.cons h51 (AtL.cons h52 (AtL.cons h53 AtL.nil))),hG,fun us r hr v' H' fr zz=>?_⟩,fun C p dd H' sm pl hw=>?_⟩
   · have sm:Same H H':=fun b o e=>fr b o e List.not_mem_nil
     exact .inl ⟨_,_,d,I.same sm,hr,Fn⟩
   · obtain ⟨⟨tl,xc,hS⟩,xf,hg2⟩:=hW C p hw
     refine ⟨C,tl,rfl,xc,hS,fun e n1 n2=>.inr ⟨e,C,dd,p,upd H' e (.ext (exA C e dd)),⟨upd_same,?_,⟨tl,xc⟩,xf⟩,?_⟩⟩
     · cases p with
       | none=>exact pl
       | some i =>
         obtain ⟨dx,e1,e2⟩:=pl
         exact ⟨dx,e1,by rw [upd_ne (ne_of_none e2 n2)]; exact e2⟩
     · have s2:Same H (upd H' e (.ext (exA C e dd))):=fun b o y=>by rw [upd_ne (fun z=>by rw [z,n1] at y; cases y)]; exact sm b o y
       have I2:=env_now hP (I.same s2) no
       have hp2:∀ i,∀ p∈(⟨upd H' e (.ext (exA C e dd)),[],Z.Ox⟩:Zc).P,p.1≠i:=fun i p hp=>nomatch hp
       have I3:=((I2.put (i:=jn) (t:=.ob e) (v:=.ref e) (hp2 _) (by simp only [At])).put (i:=iz) (t:=.ob e) (v:=.ref e) (hp2 _) (by simp only [At]))
       have I4:=env_drop (s:=(none:Option V)) (I3.forget (hp2 jn)) (by rw [List.getElem?_set_self (by rw [List.length_set,List.length_set,← I.lσ,J.len]; exact (List.getElem?_eq_some_iff.mp hjn).1)])
       exact ⟨_,_,d,I4,hg2 e,fin_back hP ((keep0 hP I).trans s2) Fn⟩
 · cases fl with
   | next=>obtain ⟨σ',H',J',q⟩:=q; exact R1 pins s1 σ' H' J' q
   | ret v=>exact q
   | brk=>exact q
   | cont=>exact q
end
end EX
namespace K76
open PySem L2 VT CLO EX
structure MgC (K:PySem.W.Frag) (mg:Str→Option Value) (S c0 c1 c2 c3 c4 c5 c6 c7 c8:Addr):Prop where
 mS:mg "SliceError" = some (.ref S)
 m0:mg "TooGreat" = some (.ref c0)
 m1:mg "NoRow" = some (.ref c1)
 m2:mg "NoBlock" = some (.ref c2)
 m3:mg "NoCall" = some (.ref c3)
 m4:mg "NoText" = some (.ref c4)
 m5:mg "NoPlace" = some (.ref c5)
 m6:mg "Unlike" = some (.ref c6)
 m7:mg "NoFault" = some (.ref c7)
 m8:mg "Done" = some (.ref c8)
 xs:XC K S []
 nd:[c0,c1,c2,c3,c4,c5,c6,c7,c8].Nodup
 hk:∀ D∈[c0,c1,c2,c3,c4,c5,c6,c7,c8],PySem.W.kitOne K (.ref c7) (.ref D)=some (decide (c7=D))
 hv:PySem.W.kitOne K (.ref c7) (.type "ValueError")=some true
 xk:XC K c7 [S]∧XF K c7
 isinstance:mg "isinstance" = none
 ValueError:mg "ValueError" = none
theorem rc_ref {a:Addr}:∀ u,RelV (.ref a) u→u=Value.ref a:=fun _ z=>z
theorem rc_ty {n:String}:∀ u,RelV (.ty n) u→u=Value.type n:=fun _ z=>z
def gRefused (ts:List T) (q:Rt→Prop):Prop:=∃ (k sp n:Int) (ps:List T),ts=[.lst ps,cC k sp,cW k n ps]∧Pts k ps∧0≤n∧n < 10 ^ 9∧wantD k n ps (comeD k ps)=false∧q (.vw (.bl true))
section
variable {P:Program} {w:World} {K:PySem.W.Frag} {mg:Str→Option Value} {base:Heap} {S c0 c1 c2 c3 c4 c5 c6 c7 c8:Addr}
abbrev n_refused:List Str:=["_law_parts","_law_come","_law_wanted","_law_error","e","_law_some"]
theorem sc_refused:FnScope n_refused ["_law_parts","_law_come","_law_wanted"] (defScope s_refused):=⟨rfl,rfl,rfl,by decide +kernel,rfl,by decide +kernel,by decide +kernel⟩
theorem ok_refused {f:Addr} {fd:FuncData} (D:Df K mg "_law_refused" s_refused ["_law_parts","_law_come","_law_wanted"] f fd) (M:MgC K mg S c0 c1 c2 c3 c4 c5 c6 c7 c8) (C_fewest:CalE P w K mg base "fewest" ["parts","ending","wanted"] 7 (spE K 3 (gFewE c7))) :
  Cal P w K mg base "_law_refused" ["_law_parts","_law_come","_law_wanted"] 8 (spP K 3 gRefused):=by
 obtain ⟨f_fewest,fd_fewest,m_fewest,k_fewest,b_fewest,F_fewest⟩:=C_fewest
 refine D.cal (fnP D.F sc_refused rfl fun cdv A outer s H E Ox hr ts q hG=>?_)
 have nd:=sc_refused.nd
 have hu:=Room.u101 hr
 have np:∀ {i:Nat} {H:Hp},NotPar ⟨H,[],Ox⟩ i:=np0
 have mS:=M.mS
 have xs:=M.xs
 have pg:∀ {x:Str} {a:Addr} {pos:Pos},mg x=some (.ref a)→(x == ("__debug__" : Str))=false→Gl (cxOf CX0 P w K mg base n_refused "_law_refused" (defScope s_refused) f cdv A outer s H E).nox x→PE (cxOf CX0 P w K mg base n_refused "_law_refused" (defScope s_refused) f cdv A outer s H E).nox (.Name x pos) (tC (.ref a)):=fun hm hd hg=>pe_glob hg hm rfl hd
 have pe_TooGreat:∀ {pos},_:=fun {pos}=>pg (pos:=pos) M.m0 (by decide) (by rfl)
 have pe_NoRow:∀ {pos},_:=fun {pos}=>pg (pos:=pos) M.m1 (by decide) (by rfl)
 have pe_NoBlock:∀ {pos},_:=fun {pos}=>pg (pos:=pos) M.m2 (by decide) (by rfl)
 have pe_NoCall:∀ {pos},_:=fun {pos}=>pg (pos:=pos) M.m3 (by decide) (by rfl)
 have pe_NoText:∀ {pos},_:=fun {pos}=>pg (pos:=pos) M.m4 (by decide) (by rfl)
 have pe_NoPlace:∀ {pos},_:=fun {pos}=>pg (pos:=pos) M.m5 (by decide) (by rfl)
 have pe_Unlike:∀ {pos},_:=fun {pos}=>pg (pos:=pos) M.m6 (by decide) (by rfl)
 have pe_NoFault:∀ {pos},_:=fun {pos}=>pg (pos:=pos) M.m7 (by decide) (by rfl)
 have pe_Done:∀ {pos},_:=fun {pos}=>pg (pos:=pos) M.m8 (by decide) (by rfl)
 have pe_ValueError:∀ {pos},PE (cxOf CX0 P w K mg base n_refused "_law_refused" (defScope s_refused) f cdv A outer s H E).nox (.Name "ValueError" pos) (tC (.ty "ValueError")):=fun {pos} pins s σ H Q I h=>ld_blt I (by rfl) M.ValueError (by decide +kernel) ⟨.ty "ValueError",H,I,rfl,h⟩
 refine ⟨_,(vss_cons (vs_set (i:=3) nd rfl (Or.inl rfl) (VP.vx vp_non) np)
   (vss_try4 (i1:=0) (i2:=1) (i3:=2) (iz:=3) (jn:=4) rfl ⟨rfl,rfl⟩ F_fewest (hr.mono (by decide)) (by rfl) m_fewest k_fewest b_fewest (by rfl) mS xs (fun _=>rfl) rfl vss_never (fun e C dd n H0 xz=>vss_never)
   (fun e C dd H0 xz =>
     (vss_cons (vs_if (VW.vc (vw_or (vc_not (vc_val (vp_isiK 3 xz rfl rc_ref (by rfl) M.isinstance pe_NoFault))) (vw_or1 (vc_not (vc_val (vp_isiK 3 xz rfl rc_ty (by rfl) M.isinstance pe_ValueError))))))
       (vss_one (vs_ret (VP.vx vp_bl)))
       vss_nil)
     (vss_cons (vs_set (i:=5) nd rfl (Or.inl rfl) (VP.vx (vp_lst (va_cons (VP.ve (vp_isiK 3 xz rfl rc_ref (by rfl) M.isinstance pe_TooGreat)) (va_cons (VP.ve (vp_isiK 3 xz rfl rc_ref (by rfl) M.isinstance pe_NoPlace)) (va_cons (VP.ve (vp_isiK 3 xz rfl rc_ref (by rfl) M.isinstance pe_Unlike)) va_nil))))) np)
     (vss_cons (vs_set (i:=5) nd rfl (Or.inl rfl) (VP.vx (vp_add (vr_var 5) (VP.vr (vp_lst (va_cons (VP.ve (vp_isiK 3 xz rfl rc_ref (by rfl) M.isinstance pe_Done)) (va_cons (VP.ve (vp_isiK 3 xz rfl rc_ref (by rfl) M.isinstance pe_NoRow)) (va_cons (VP.ve (vp_isiK 3 xz rfl rc_ref (by rfl) M.isinstance pe_NoBlock)) va_nil))))))) np)
     (vss_one (vs_ret (VP.vx (vp_and (vp_nin (VP.vr vp_bl) (vr_var 5)) (vp_and (vp_not (vp_isiK 3 xz rfl rc_ref (by rfl) M.isinstance pe_NoCall)) (vp_one (vp_not (vp_isiK 3 xz rfl rc_ref (by rfl) M.isinstance pe_NoText)))))))))))) nd)),fun _=>?_⟩
 obtain ⟨k,sp,n,ps,rfl,hp,n0,n9,hwt,hq⟩:=hG
 refine ⟨?_,_,_,_,fun C p=>C=c7∧p=none,rfl,rfl,rfl,⟨k,sp,n,ps,rfl,hp,n0,n9,hwt,rfl,rfl⟩,fun C p hW=>?_⟩
 · intro i t
   match i with
   | 0=>intro z; cases z
   | 1=>intro z; cases z
   | 2=>intro z; cases z
   | 3=>intro z; cases z
   | 4=>intro z; cases z
   | 5=>intro z; cases z
   | i+6=>intro z; cases z
 · obtain ⟨rfl,rfl⟩:=hW
   obtain ⟨x1,x2⟩:=M.xk
   have hn:=M.nd
   have hk:=M.hk
   have no:∀ D,D≠C→(decide (C=D))=false:=fun D h=>decide_eq_false fun z=>h z.symm
   have hkC:=hk C (by simp)
   rw [decide_eq_true rfl] at hkC
   have h0:=hk c0 (by simp)
   have h1:=hk c1 (by simp)
   have h2:=hk c2 (by simp)
   have h3:=hk c3 (by simp)
   have h4:=hk c4 (by simp)
   have h5:=hk c5 (by simp)
   have h6:=hk c6 (by simp)
   have h8:=hk c8 (by simp)
   simp only [List.nodup_cons,List.mem_cons,List.not_mem_nil,or_false,not_or] at hn
   rw [no c0 hn.1.2.2.2.2.2.2.1] at h0
   rw [no c1 hn.2.1.2.2.2.2.2.1] at h1
   rw [no c2 hn.2.2.1.2.2.2.2.1] at h2
   rw [no c3 hn.2.2.2.1.2.2.2.1] at h3
   rw [no c4 hn.2.2.2.2.1.2.2.1] at h4
   rw [no c5 hn.2.2.2.2.2.1.2.1] at h5
   rw [no c6 hn.2.2.2.2.2.2.1.1] at h6
   rw [no c8 (Ne.symm hn.2.2.2.2.2.2.2.1)] at h8
   refine ⟨⟨[S],x1,.inr (by simp)⟩,x2,fun e=>?_⟩
   refine ⟨rfl,true,hkC,rfl,true,M.hv,rfl,false,h0,rfl,false,h5,rfl,false,h6,le8 (show 3≤1000 by decide),?_⟩
   refine ⟨rfl,false,h8,rfl,false,h1,rfl,false,h2,le8 (show 3≤1000 by decide),le8 (show 6≤1000 by decide),?_⟩
   exact ⟨rfl,rfl,rfl,false,h3,rfl,false,h4,hq⟩
end
end K76
set_option exponentiation.threshold 4000
namespace K76
open PySem L2 VT CLO EX
def gCell (ts:List T) (q:Rt→Prop):Prop:=∃ (ns:List Int) (k:Nat),ts=[.lst (ns.map .int),.int (k:Int)]∧q (.vw (.int (ns.getD k 0)))
def partD (c:Int):Int:=if c % 3=0 then c / 3 % (2 * 10 ^ 30) - 10 ^ 30 else c / 3 % 7 - 1
def gPart (ts:List T) (q:Rt→Prop):Prop:=∃ c:Int,ts=[.int c]∧q (.vw (.int (partD c)))
theorem bN (i:Nat) (h:i≤10 ^ 200:=by decide):Big (i:Int):=Big.of (by omega) (by exact_mod_cast h)
theorem partD_b (c:Int) : -10 ^ 40≤partD c∧partD c≤10 ^ 40:=by
 unfold partD
 split <;> constructor <;> omega
section
variable {P:Program} {w:World} {K:PySem.W.Frag} {mg:Str→Option Value} {base:Heap}
abbrev n_cell_at:List Str:=["_law_script","_law_k"]
theorem sc_cell_at:FnScope n_cell_at ["_law_script","_law_k"] (defScope s_cell_at):=⟨rfl,rfl,rfl,by decide +kernel,rfl,by decide +kernel,by decide +kernel⟩
theorem ok_cell_at {f:Addr} {fd:FuncData} (D:Df K mg "_law_cell_at" s_cell_at ["_law_script","_law_k"] f fd) (M:MgA mg):Cal P w K mg base "_law_cell_at" ["_law_script","_law_k"] 1 (spP K 2 gCell):=by
 refine D.cal (fnP D.F sc_cell_at rfl fun cdv A outer s H E Ox hr ts q hG=>?_)
 have nd:=sc_cell_at.nd
 have hu:=Room.u101 hr
 have np:∀ {i:Nat},NotPar ⟨H,[],Ox⟩ i:=np0
 have npf:∀ {is:List Nat},∀ i∈is,NotPar ⟨H,[],Ox⟩ i:=fun i _=>np0
 refine ⟨_,(vss_cons (vs_if (vc_lt (vr_var 1) (VP.vr (vp_callB call_lenU callT_len (by rfl) M.len PySem.boot_len (var_cons (vr_var 0) var_nil))))
    (vss_one (vs_ret (VP.vx (vp_ix (vr_var 0) (vr_var 1)))))
    vss_nil)
   (vss_one (vs_ret (VP.vx vp_int)))),fun _=>?_⟩
 obtain ⟨ns,k,rfl,hq⟩:=hG
 have hlen:(ns.map T.int).length=ns.length:=List.length_map _
 by_cases h:k < ns.length
 · refine iteB (decide_eq_true (by rw [hlen]; omega)) ?_
   rw [List.getD_eq_getElem?_getD,List.getElem?_eq_getElem h] at hq
   exact ⟨_,L2.atI_nat (by rw [List.getElem?_map,List.getElem?_eq_getElem h]; rfl),hq⟩
 · refine iteN (decide_eq_false (by rw [hlen]; omega)) ?_
   rw [List.getD_eq_getElem?_getD,List.getElem?_eq_none (by omega)] at hq
   exact hq
abbrev n_part:List Str:=["_law_cell"]
theorem sc_part:FnScope n_part ["_law_cell"] (defScope s_part):=⟨rfl,rfl,rfl,by decide +kernel,rfl,by decide +kernel,by decide +kernel⟩
theorem ok_part {f:Addr} {fd:FuncData} (D:Df K mg "_law_part" s_part ["_law_cell"] f fd) (M:MgA mg):Cal P w K mg base "_law_part" ["_law_cell"] 1 (spP K 1 gPart):=by
 refine D.cal (fnP D.F sc_part rfl fun cdv A outer s H E Ox hr ts q hG=>?_)
 have nd:=sc_part.nd
 have hu:=Room.u101 hr
 have np:∀ {i:Nat},NotPar ⟨H,[],Ox⟩ i:=np0
 have npf:∀ {is:List Nat},∀ i∈is,NotPar ⟨H,[],Ox⟩ i:=fun i _=>np0
 refine ⟨_,(vss_cons (vs_if (vc_eq hu (VP.vr (vp_mod (vr_var 0) (VP.vr vp_int))) (VP.vr vp_int))
    (vss_one (vs_ret (VP.vx (vp_sub (VP.vr (vp_mod (VP.vr (vp_fdivB (vr_var 0) (VP.vr vp_int))) (VP.vr (vp_mulB (VP.vr vp_int) (VP.vr (vp_powB (VP.vr vp_int) (VP.vr vp_int))))))) (VP.vr (vp_powB (VP.vr vp_int) (VP.vr vp_int)))))))
    vss_nil)
   (vss_one (vs_ret (VP.vx (vp_sub (VP.vr (vp_mod (VP.vr (vp_fdivB (vr_var 0) (VP.vr vp_int))) (VP.vr vp_int))) (VP.vr vp_int)))))),fun _=>?_⟩
 obtain ⟨c,rfl,hq⟩:=hG
 unfold partD at hq
 refine ⟨by decide,iteD (fun h=>?_) (fun h=>?_)⟩
 · rw [if_pos h] at hq
   exact ⟨⟨by decide,bN 3⟩,⟨by decide,by decide,bN 10⟩,⟨bN 2,Big.of (by decide +kernel) (by decide +kernel)⟩,by decide +kernel,⟨by decide,by decide,bN 10⟩,hq⟩
 · rw [if_neg h] at hq
   exact ⟨⟨by decide,bN 3⟩,by decide,hq⟩
end
end K76
namespace CLO
open PySem PySem.Spec PyProof.Rows L2 VT
section
variable {X:Cx} {Z:Zc}
def gIfNX (f:FX) (ga gb:FS):FS:=fun d ρ=>f ρ fun ρ' r=>∃ c,r = .vw (.bl c)∧if c=true then gb d ρ' else ga d ρ'
theorem vs_ifNX {e:Expr} {f:FX} {a b:List Stmt} {ga gb:FS} {p pos:Pos} (h:VX X Z e f) (ha:VSs X Z a ga) (hb:VSs X Z b gb) (he:∀ whole,isTrue e X.env whole=(do let v ← whole; standAt e.pos; holding [v] (truthy v)):=by intro _; rfl) :
  VS X Z (.If (.UnaryOp .Not e p) a b pos) (gIfNX f ga gb):=.mk fun tm=>PS.weak (ps_if (pt_not (pt_val (h tm) he)) (ha tm) (hb tm)) fun D σ H ⟨ρ,O,d,I,q,F⟩ =>
 ⟨ρ,O,_,I,q,fun ρ' r ⟨c,er,hc⟩ O' v H' z=>by
   subst er
   have e:=z.2
   simp only [At] at e
   refine ⟨c,e,?_⟩
   cases c with
   | true=>rw [if_pos rfl] at hc; rw [if_neg (by decide)]; exact ⟨ρ',O',d,z.1,hc,F⟩
   | false=>rw [if_neg Bool.false_ne_true] at hc; rw [if_pos (by rfl)]; exact ⟨ρ',O',d,z.1,hc,F⟩⟩
end
end CLO
namespace CLO
open PySem PySem.Spec PyProof.Rows L2 VT
open PySem.W (CodeHd tabObj fnMade makeFunction_K nestDef_K)
theorem paired_of {α β:Type} {F:α→β→Prop}:∀ {l:List α} {m:List β},l.length=m.length→(∀ (j:Nat) a b,l[j]?=some a→m[j]?=some b→F a b)→Paired F l m
 | [],[],_,_=>.nil
 | a :: l,b :: m,e,h=>.cons (h 0 a b rfl rfl) (paired_of (Nat.succ.inj e) fun j x y p q=>h (j+1) x y p q)
structure Made (H H':Hp) (F:FnS) (f:Addr) (ws:List V) (P0:Addr):Prop where
 clo:∀ O:List Addr,(∀ a∈O,H a≠none)→CloAt H' O F f ws
 keep:∀ b o,H b=some o→b≠P0→H' b=some o
 tab:∃ ps,H' P0=some (.tbl ps)
structure Tab (mg:Str→Option Value) (base:Heap) (c P0:Addr):Prop where
 hd:CodeHd base c P0
 bl:base.BuiltinsAt mg P0
def spMk (F:FnS) (ix:List Nat) (n:Nat) (P0:Addr):Sp:=fun vs H Q _=>vs.length=n∧H P0=some (.tbl #[])∧∀ f H' ws,ws.length=ix.length→(∀ (j i:Nat),ix[j]?=some i→ws[j]?=vs[i]?)→Made H H' F f ws P0→Q (.ref f) H'
section
variable {P:Program} {w:World} {K:PySem.W.Frag} {mg:Str→Option Value} {base:Heap} {f c P0:Addr} {name qual g:Str} {params gparams:Arguments} {gbody:List Stmt} {gscope scope:Scope} {dV kV doc pm ct oc0:Value} {an od:Option Addr} {osl:Array (Option Value)} {N ps free:List Str} {ix:List Nat} {pos pg pr:Pos} {clos:Addr→List (Str×Addr)} {ig:Nat}
theorem fn_mk (lk:K.lookup f=some ⟨oc0,od,.func (PySem.W.fnOf name qual params [.FunctionDef g gparams gbody [] none [] gscope none g pos,.Return (some (.Name g pg)) pr] scope dV kV doc pm an (.ref c) ct),osl⟩) (hcd:PySem.W.codeIn K (.ref c) qual=true) (S:FnScope N ps scope) (Tb:Tab mg base c P0)
  (hd0:gparams.defaults=[]) (hk0:gparams.kw_defaults=[]) (hann:∀ env,annTrees gparams none env=[])
  (hcl:∀ L cd,closureFor gscope (envOfC qual scope L f cd)=pure (clos L))
  (hfr:∀ L,(clos L).map (·.1)=free) (hnd:∀ L,((clos L).map (·.2)).Nodup) (hlk:∀ L,∀ q∈clos L,(cellsFrom (L+1) scope.names []).lookup q.1=some q.2)
  (hix:∀ (j i:Nat),ix[j]?=some i→∃ x,free[j]?=some x∧ps[i]?=some x∧scope.names.lookup x=some .cell) (hil:ix.length=free.length) (hig:N[ig]?=some g) (hgl:scope.names.lookup g=some .local) (hgp:ps.length≤ig)
  (hdb:(g == ("__debug__" : Str))=false) (hcdx:(g == ("__classdict__" : Str))=false) :
  FnOk P w K mg base CX0 1 f (PySem.W.fnOf name qual params [.FunctionDef g gparams gbody [] none [] gscope none g pos,.Return (some (.Name g pg)) pr] scope dV kV doc pm an (.ref c) ct) ps (spMk ⟨g,qual ++ ".<locals>." ++ g,gparams,gbody,gscope,free⟩ ix ps.length P0):=by
 refine ⟨fun vs H Q E h=>h.1,fun A outer s H args us vs Q E hr e0 hb r hsp=>?_⟩
 obtain ⟨hl,hP0,hQ⟩:=hsp
 have KX:K.In s.heap:=e0.mod.kin.keeps fun b o e=>(e0.bs b o e).1
 have lim:s.heap.NoLimit:=e0.mod.nolimit.keeps fun b o e=>(e0.bs b o e).1
 have hkind:∀ y∈ps.zip us,scope.names.lookup y.1=some .local∨(scope.names.lookup y.1=some .cell∧((cellsFrom (s.heap.objs.size+1) scope.names []).lookup y.1).isSome=true):=fun ⟨n,v⟩ hy=>by
  rcases S.par n (List.of_mem_zip hy).1 with q | q
  · exact .inl q
  · exact .inr ⟨q,PySem.W.cellsFrom_some _ _ _ (.inl q)⟩
 refine codeAny_call_function hr.depth (KX _ _ lk) rfl S.co S.gen rfl (PySem.W.codeRec_of KX hcd) (hb _ _ _ _ ?_)
 refine wpAny_newFunctionEnv_cells S.kind hkind fun env he s1 x=>?_
 subst he
 refine ⟨lim.keeps x.toInCall.keep,codeAny_func ?_⟩
 have I:Inv (cxOf CX0 P w K mg base N qual scope f (.ref c) A outer s H E) [] (L2.start N vs) H s1:=inv_start S hr.hd e0 hl r x
 have hmg:s1.heap.Ns mainGlobals mg:=e0.mod.glob.keeps I.bk
 have hP1:s1.heap.get? P0=some (tabObj #[]):=I.hok P0 _ hP0
 have hgP:mainGlobals≠P0:=fun z=>by
  obtain ⟨o,es,ep,e,d,_⟩:=hmg
  rw [z,hP1] at e; cases e; cases d
 refine wpAny_execs_cons (nestDef_K hd0 hk0 (hann _) ?_)
 refine makeFunction_K (mg:=mg) (clos:=clos s.heap.objs.size) (hcl _ _) rfl hmg rfl (Tb.hd.keeps I.bk) hP1 trivial rfl hgP (Tb.bl.keeps I.bk) fun c' ctv doc' h' tk hx hge hlt hrec htb=>?_
 obtain ⟨c2,oc,fv,t,e2,hoc,hod,hov⟩:=hrec
 cases e2
 have hq:qualnameIn (envOfC qual scope s.heap.objs.size f (.ref c)) g g=qual ++ ".<locals>." ++ g:=by
  unfold qualnameIn
  show (if (scope.names.lookup g == some .globalExplicit)=true then g else _)=_
  rw [hgl]
  rfl
 have hov:fv[1]?=some (.str (qual ++ ".<locals>." ++ g) t):=by rw [← hq]; exact hov
 show wpAny _ _ (storeName (envOfC qual scope s.heap.objs.size f (.ref c)) g (.ref h'.objs.size)) _ _ { s1 with heap:=h'.push (fnMade g (qualnameIn (envOfC qual scope s.heap.objs.size f (.ref c)) g g) gparams gbody gscope (clos s.heap.objs.size) doc' ((mg "__name__").getD .none) c' ctv),toks:=tk }
 rw [hq]
 obtain ⟨fo,hfo⟩:∃ fo,fo=fnMade g (qual ++ ".<locals>." ++ g) gparams gbody gscope (clos s.heap.objs.size) doc' ((mg "__name__").getD .none) c' ctv:=⟨_,rfl⟩
 rw [← hfo]
 have f1:H c'=none:=I.hok.fresh hge
 have szF:s1.heap.objs.size≤h'.objs.size:=Nat.le_trans hge (Nat.le_of_lt hlt)
 have f2:H h'.objs.size=none:=I.hok.fresh szF
 have n1:P0≠c':=fun z=>by rw [z,f1] at hP0; cases hP0
 have n2:P0≠h'.objs.size:=fun z=>by rw [z,f2] at hP0; cases hP0
 have n3:c'≠h'.objs.size:=Nat.ne_of_lt hlt
 obtain ⟨H2,hH2⟩:∃ H2,H2=upd (upd (upd H P0 (.tbl (#[] ++ #[rawInt pos.line,rawInt pos.col,.ref c']))) c' (obX c' oc)) h'.objs.size (obX h'.objs.size fo):=⟨_,rfl⟩
 have a1:H2 h'.objs.size=some (obX h'.objs.size fo):=by rw [hH2,upd_same]
 have a2:H2 c'=some (obX c' oc):=by rw [hH2,upd_ne n3,upd_same]
 have a3:H2 P0=some (.tbl (#[] ++ #[rawInt pos.line,rawInt pos.col,.ref c'])):=by rw [hH2,upd_ne n2,upd_ne n1,upd_same]
 have a4:∀ b,b≠P0→b≠c'→b≠h'.objs.size→H2 b=H b:=fun b x y z=>by rw [hH2,upd_ne z,upd_ne y,upd_ne x]
 have trk:∀ b u,H b=some u→b≠c'∧b≠h'.objs.size:=fun b u z=>⟨fun y=>(by rw [y,f1] at z; cases z),fun y=>(by rw [y,f2] at z; cases z)⟩
 have old:∀ b o,s1.heap.get? b=some o→b≠c'∧b≠h'.objs.size:=fun b o z=>⟨Nat.ne_of_lt (Nat.lt_of_lt_of_le (Heap.lt_size z) hge),Nat.ne_of_lt (Nat.lt_of_lt_of_le (Heap.lt_size z) szF)⟩
 have kp:∀ b o,b≠P0→s1.heap.get? b=some o→(h'.push fo).get? b=some o:=fun b o n q=>Heap.get?_push_of_some _ (hx b o n q)
 have un2:Un (frs outer) [] H H2 s1.heap (h'.push fo):=by
  refine ⟨fun b o q n _ _=>kp b o (fun z=>by rw [z,hP0] at n; cases n) q,fun b o q n _ _=>⟨o.slots,kp b o (fun z=>by rw [z,hP0] at n; cases n) q⟩,fun b o q n _=>by rw [a4 b (fun z=>by rw [z,hP0] at n; cases n) (old b o q).1 (old b o q).2]; exact n,fun b o q _=>?_,fun b xs z=>by rw [a4 b (fun y=>by rw [y,hP0] at z; cases z) (trk b _ z).1 (trk b _ z).2]; exact z,fun b o u z=>by rw [a4 b (fun y=>by rw [y,hP0] at z; cases z) (trk b _ z).1 (trk b _ z).2]; exact z,fun b ps z=>?_⟩
  · by_cases y:b=P0
    · rw [y]; exact ⟨_,Heap.get?_push_of_some _ htb⟩
    · exact ⟨o,kp b o y q⟩
  · by_cases y:b=P0
    · rw [y,hP0] at z
      cases z
      exact ⟨_,by rw [y]; exact a3⟩
    · exact ⟨#[],by rw [a4 b y (trk b _ z).1 (trk b _ z).2,z]; simp⟩
 have hok2:HOk P w H2 (h'.push fo):=fun b u z=>by
  by_cases y1:b=h'.objs.size
  · rw [y1,a1] at z
    cases z
    rw [y1]
    have nf:fo.isFreed=false:=by rw [hfo]; rfl
    exact ⟨Heap.get?_push_size _ nf,⟨_,Heap.get?_push_size _ nf⟩,fun g1 g2 y k=>k _ y⟩
  by_cases y2:b=c'
  · rw [y2,a2] at z
    cases z
    rw [y2]
    exact ⟨Heap.get?_push_of_some _ hoc,⟨_,Heap.get?_push_of_some _ hoc⟩,fun g1 g2 y k=>k _ y⟩
  by_cases y3:b=P0
  · rw [y3,a3] at z
    cases z
    rw [y3]
    exact Heap.get?_push_of_some _ htb
  rw [a4 b y3 y2 y1] at z
  refine (I.hok b u z).stay (fun d v hd q=>kp d v (fun y=>?_) q) (fun d q=>?_) fun d xs q=>?_
  · rcases hd with m | m
    · exact y3 (by rw [← m]; exact y)
    · rw [y,hP0] at m; cases m
  · rw [a4 d (fun y=>by rw [y,hP0] at q; cases q) (trk d _ q).1 (trk d _ q).2]; exact q
  · rw [a4 d (fun y=>by rw [y,hP0] at q; cases q) (trk d _ q).1 (trk d _ q).2]; exact q
 have I2:Inv (cxOf CX0 P w K mg base N qual scope f (.ref c) A outer s H E) [] (L2.start N vs) H2 { s1 with heap:=h'.push fo,toks:=tk }:=I.un (t':=tk) un2 hok2
 refine store_ok I2 S.nd hig (.inl hgl) (v:=.ref h'.objs.size) rfl (fun s3 I3=>?_) (.inl rfl)
 refine wpAny_execs_cons (wpAny_Return_some (thn (pe_var (X:=cxOf CX0 P w K mg base N qual scope f (.ref c) A outer s H E) (i:=ig) hig (.inl hgl) hdb hcdx [] s3 _ H2 (fun v H'=>v = .ref h'.objs.size∧H'=H2) I3 ⟨.ref h'.objs.size,?_,rfl,rfl⟩) fun v s4 ⟨y,H4,I4,ry,ey,eh⟩=>?_))
 · rw [List.getElem?_set_self]
   have:=(List.getElem?_eq_some_iff.mp hig).1
   unfold L2.start
   rw [List.length_append,List.length_map,List.length_replicate]
   omega
 subst ey eh
 obtain rfl:v=Value.ref h'.objs.size:=ry
 obtain ⟨cs,hcs⟩:∃ cs,cs=(clos s.heap.objs.size).map (·.2):=⟨_,rfl⟩
 have cel:∀ q∈clos s.heap.objs.size,(cxOf CX0 P w K mg base N qual scope f (.ref c) A outer s H E).env.cells.lookup q.1=some q.2:=fun q hq=>hlk _ q hq
 have cin:∀ b∈cs,H4 b=none∧s.heap.objs.size≤b∧b < s1.heap.objs.size∧∃ o,s4.heap.get? b=some o:=fun b hb=>by
  rw [hcs] at hb
  obtain ⟨q,hq,rfl⟩:=List.mem_map.mp hb
  obtain ⟨v,o,ho,_⟩:=I4.cell _ _ (cel q hq)
  obtain ⟨v1,o1,ho1,_⟩:=I.cell _ _ (cel q hq)
  exact ⟨I4.freeC _ _ (cel q hq),I4.ok.cab _ _ rfl (cel q hq),Heap.lt_size ho1,o,ho⟩
 obtain ⟨H3,hH3⟩:∃ H3:Hp,H3=fun b=>if b∈cs then (s4.heap.get? b).map (obX b) else H4 b:=⟨_,rfl⟩
 have b1:∀ b o,b∈cs→s4.heap.get? b=some o→H3 b=some (obX b o):=fun b o m q=>by rw [hH3]; show (if b∈cs then _ else _)=_; rw [if_pos m,q]; rfl
 have b2:∀ b,b∉cs→H3 b=H4 b:=fun b m=>by rw [hH3]; show (if b∈cs then _ else _)=_; rw [if_neg m]
 have trk4:∀ b u,H4 b=some u→b∉cs:=fun b u z m=>by rw [(cin b m).1] at z; cases z
 have olds:∀ b o,s.heap.get? b=some o→b∉cs:=fun b o q m=>Nat.lt_irrefl _ (Nat.lt_of_lt_of_le (Heap.lt_size q) (cin b m).2.1)
 have u4:Un (frs outer) [] H H4 s.heap s4.heap:=I4.base
 have un3:Un (frs outer) [] H H3 s.heap s4.heap:=⟨u4.keep,u4.slot,fun b o q n e=>by rw [b2 b (olds b o q)]; exact u4.free b o q n e,u4.there,fun b xs z=>by rw [b2 b (trk4 b _ (u4.tups b xs z))]; exact u4.tups b xs z,fun b o u z=>by rw [b2 b (trk4 b _ (u4.frzs b o u z))]; exact u4.frzs b o u z,fun b ps z=>by
  obtain ⟨more,e⟩:=u4.tbls b ps z
  exact ⟨more,by rw [b2 b (trk4 b _ e)]; exact e⟩⟩
 have hok3:HOk P w H3 s4.heap:=fun b u z=>by
  by_cases m:b∈cs
  · obtain ⟨_,_,_,o,q⟩:=cin b m
    rw [b1 b o m q] at z
    cases z
    exact ⟨q,⟨_,q⟩,fun g1 g2 y k=>k _ y⟩
  · rw [b2 b m] at z
    exact (I4.hok b u z).stay (fun _ _ _ q=>q) (fun d q=>by rw [b2 d (trk4 d _ q)]; exact q) fun d xs q=>by rw [b2 d (trk4 d _ q)]; exact q
 refine ⟨.ref h'.objs.size,H3,I4.os,I4.bare,un3,hok3,rfl,hQ _ H3 (ix.map fun i=>vs.getD i .non) (by rw [List.length_map]) (fun j i hj=>?_) ⟨fun O hO=>?_,fun b o z n=>?_,?_⟩⟩
 · obtain ⟨x,_,hp,_⟩:=hix j i hj
   have hi:i < vs.length:=by rw [hl]; exact (List.getElem?_eq_some_iff.mp hp).1
   rw [List.getElem?_map,hj,List.getElem?_eq_getElem hi]
   show some (vs.getD i .non)=_
   rw [List.getD_eq_getElem?_getD,List.getElem?_eq_getElem hi]
   rfl
 · have hin:∀ q∈clos s.heap.objs.size,q.2∈cs:=fun q hq=>by rw [hcs]; exact List.mem_map.mpr ⟨q,hq,rfl⟩
   have h1:H3 h'.objs.size=some (obX h'.objs.size fo):=by rw [b2 _ (trk4 _ _ a1)]; exact a1
   rw [hfo] at h1
   refine ⟨clos s.heap.objs.size,c',oc,fv,t,doc',_,ctv,⟨h1,fun m=>hO _ m f2⟩,⟨by rw [b2 _ (trk4 _ _ a2)]; exact a2,fun m=>hO _ m f1⟩,hod,hov,hfr _,hnd _,fun q hq=>?_,paired_of ?_ fun j q v hj hv=>?_⟩
   · have:=(cin _ (hin q hq)).2.2.1
     exact ⟨Nat.ne_of_lt (Nat.lt_of_lt_of_le this szF),Nat.ne_of_lt (Nat.lt_of_lt_of_le this hge)⟩
   · rw [List.length_map,hil,← hfr s.heap.objs.size,List.length_map]
   · rw [List.getElem?_map] at hv
     cases hi:ix[j]? with
     | none=>rw [hi] at hv; cases hv
     | some i =>
       rw [hi] at hv
       have hv:vs.getD i .non=v:=Option.some.inj hv
       obtain ⟨x,hx1,hx2,hx3⟩:=hix j i hi
       have hip:=(List.getElem?_eq_some_iff.mp hx2).1
       have hq:q∈clos s.heap.objs.size:=List.mem_of_getElem? hj
       have exq:q.1=x:=by
        have:=hfr s.heap.objs.size
        rw [← this,List.getElem?_map,hj] at hx1
        exact Option.some.inj hx1
       obtain ⟨m,_,hlo⟩:=I4.loc
       have hNi:(cxOf CX0 P w K mg base N qual scope f (.ref c) A outer s H E).N[i]?=some x:=by
        show N[i]?=some x
        rw [← S.pre,List.getElem?_take_of_lt hip] at hx2
        exact hx2
       have hsi:((L2.start N vs).set ig (some (V.ref h'.objs.size)))[i]?=some (some v):=by
        rw [List.getElem?_set_ne (by omega)]
        unfold L2.start
        rw [List.getElem?_append_left (by rw [List.length_map]; omega),List.getElem?_map,List.getElem?_eq_getElem (by omega)]
        rw [List.getD_eq_getElem?_getD,List.getElem?_eq_getElem (by omega)] at hv
        rw [← hv]
        rfl
       obtain ⟨u,ru,lo⟩:=hlo i x v hNi hsi (.inr (.inl hx3))
       rcases lo with ⟨k,_⟩ | ⟨_,d,hd,o,ho,hdt⟩
       · have k:scope.names.lookup x=some .local:=k
         rw [hx3] at k
         cases k
       · have ed:d=q.2:=by
          have:=cel q hq
          rw [exq,hd] at this
          exact Option.some.inj this
         subst ed
         refine ⟨o,u,⟨b1 _ o (hin q hq) ho,fun m=>hO _ m (e0.hok.fresh (cin _ (hin q hq)).2.1)⟩,hdt,ru⟩
 · rw [b2 b (trk4 b o (by rw [a4 b n (trk b _ z).1 (trk b _ z).2]; exact z)),a4 b n (trk b _ z).1 (trk b _ z).2]
   exact z
 · exact ⟨_,by rw [b2 P0 (trk4 P0 _ a3)]; exact a3⟩
end
end CLO
namespace CLO
open PySem PySem.Spec PyProof.Rows L2 VT
section
variable {X:Cx} {Z:Zc}
def WSs (X:Cx) (Z:Zc) (ss:List Stmt) (g:En→Prop):Prop:=∀ (pins:List (Addr×Obj)) (s:Shared) (σ:L2.St) (H:Hp) (D:Ends) (O:List (Option Addr)) (ρ:En),Inv X pins σ H s→EnvAt X.K Z [] O ρ σ H→g ρ→(∀ H',D.rt (.bl true) H') →
 wpAny (model X.prog X.w) X.A (execs ss X.env) (SP X pins D) X.xe s
abbrev yes:En→Rt→Prop:=fun _ r=>r = .vw (.bl true)
theorem fin_yes {D:Ends} {d:VEn} {D':Ends} (hD:∀ H',D.rt (.bl true) H') (hr:d.rt=yes) (hR:D'.rt=D.rt):∀ O ρ σ H r v,RetX X.K Z [] O ρ σ H r v→d.rt ρ r→D'.rt v H:=fun O ρ σ H r v z h=>by
 rw [hr] at h
 have h:r = .vw (.bl true):=h
 subst h
 have e:=z.2
 simp only [At] at e
 rw [hR,e]
 exact hD H
theorem ws_end {ss:List Stmt} {g:FS} (h:VSs X Z ss g):WSs X Z ss (g { nx:=fun _=>False,rt:=yes }):=fun pins s σ H D O ρ I E hg hD =>
 h [] pins s σ H D I ⟨ρ,O,_,E,hg,⟨fun _ _ _ _ _ z=>z.elim,fin_yes hD rfl rfl,fun _ _ _ _ _ z=>z.elim,fun _ _ _ _ _ z=>z.elim⟩⟩
theorem ws_cons {st:Stmt} {ss:List Stmt} {g1:FS} {g:En→Prop} (h:VS X Z st g1) (h':WSs X Z ss g):WSs X Z (st :: ss) (g1 { nx:=g,rt:=yes }):=fun pins s σ H D O ρ I E hg hD=>by
 refine wpAny_execs_cons (thn (h [] pins s σ H { nx:=fun σ' H'=>∃ O ρ,EnvAt X.K Z [] O ρ σ' H'∧g ρ,rt:=D.rt } I ⟨ρ,O,_,E,hg,⟨fun O ρ σ H E z=>⟨O,ρ,E,z⟩,fin_yes hD rfl rfl,fun _ _ _ _ _ z=>z.elim,fun _ _ _ _ _ z=>z.elim⟩⟩) fun fl s1 q=>?_)
 cases fl with
 | next=>obtain ⟨σ',H',J,O',ρ',E',hg'⟩:=q; exact h' pins s1 σ' H' D O' ρ' J E' hg' hD
 | ret v=>exact q
 | brk=>obtain ⟨_,_,_,z⟩:=q; exact z.elim
 | cont=>obtain ⟨_,_,_,z⟩:=q; exact z.elim
theorem ws_weak {ss:List Stmt} {g g':En→Prop} (h:WSs X Z ss g) (hw:∀ ρ,g' ρ→g ρ):WSs X Z ss g':=fun pins s σ H D O ρ I E hg hD=>h pins s σ H D O ρ I E (hw ρ hg) hD
theorem at_reb {K:PySem.W.Frag} {H H':Hp} {O:List Addr} {t:T} {v:V} {P0:Addr} (fr:∀ b o,H b=some o→b≠P0→H' b=some o) (ha:P0∈O) (hu:H P0=some (.tbl #[])) (h:At K H O t v):At K H' O t v:=by
 have ne:∀ b,b∉O→b≠P0:=fun b hb e=>hb (by rw [e]; exact ha)
 refine At.map (fun b vs q=>?_) (fun b vs q=>?_) (fun b kvs q=>⟨fr _ _ q.1 (ne b q.2),q.2⟩) (fun b vs q=>fr _ _ q (ne_of q hu (by intro e; cases e))) h
 · rcases q with q | q
   · refine .inl ⟨?_,q.2⟩
     rcases q.1 with z | ⟨o',z⟩
     · exact .inl (fr _ _ z (ne b q.2))
     · exact .inr ⟨o',fr _ _ z (ne b q.2)⟩
   · exact .inr q
 · rcases q with z | z
   · refine .inl ?_
     rcases z with z | ⟨o',z⟩
     · exact .inl (fr _ _ z (ne_of z hu (by intro e; cases e)))
     · exact .inr ⟨o',fr _ _ z (ne_of z hu (by intro e; cases e))⟩
   · exact .inr z
theorem no_roots {K:PySem.W.Frag} {tm:List (T×V)} {O:List (Option Addr)} {ρ:En} {σ:L2.St} {H:Hp} (I:EnvAt K Z tm O ρ σ H) (hv:EX.noOwn ρ):roots O=[]:=by
 cases hr:roots O with
 | nil=>rfl
 | cons a r =>
   have ha:a∈roots O:=by rw [hr]; exact List.mem_cons_self
   obtain ⟨i,hi⟩:=List.mem_iff_getElem?.mp (mem_roots.mp ha)
   have hl:=(List.getElem?_eq_some_iff.mp hi).1
   have hl':i < ρ.length:=by rw [← I.lO]; exact hl
   obtain ⟨o,s,h1,h2,h3⟩:=I.sl i ρ[i] (by simp)
   rw [hi] at h1
   cases h1
   cases q:ρ[i] with
   | none=>rw [q] at h3; cases h3
   | some tb =>
     obtain ⟨t,b⟩:=tb
     rw [q] at h3
     cases b with
     | false=>cases h3.1
     | true=>exact absurd (by rw [← q]; simp) (hv i t)
theorem env_reb {K:PySem.W.Frag} {O:List (Option Addr)} {ρ:En} {σ:L2.St} {H H':Hp} {P0:Addr} (I:EnvAt K Z [] O ρ σ H) (hv:EX.noOwn ρ) (fr:∀ b o,H b=some o→b≠P0→H' b=some o) (ha:P0∈Z.Ox) (hu:H P0=some (.tbl #[])) (hu':H' P0≠none):EnvAt K ⟨H',[],Z.Ox⟩ [] O ρ σ H':=by
 have r0:=no_roots I hv
 have inA:P0∈av Z O:=List.mem_append_right _ ha
 refine ⟨I.lσ,I.lO,fun i e h=>?_,I.nd,fun a h=>(by rw [r0] at h; cases h),fun p hp=>(nomatch hp),fun a h=>?_,fun b o e _=>e,fun p hp=>(nomatch hp)⟩
 · obtain ⟨o,w,h1,h2,h3⟩:=I.sl i e h
   refine ⟨o,w,h1,h2,h3.map (fun _ _ q=>at_reb fr inA hu q) fun b t eo q=>?_⟩
   have:b∈roots O:=mem_roots.mpr (List.mem_of_getElem? (by rw [h1,eo]))
   rw [r0] at this
   cases this
 · by_cases n:a=P0
   · rw [n]; exact hu'
   · cases e:H a with
     | none=>exact absurd e (I.ox a h)
     | some u=>rw [fr a u e n]; simp
end
section
variable {X:Cx} {Z:Zc} {F:FnS} {ix:List Nat} {n i:Nat} {P0 f:Addr} {fd:FuncData} {ps:List Str} {mk y:Str} {e:Expr} {es:List Expr} {ga:FA} {p pos py pos':Pos} {rest:List Stmt} {g:En→Prop}
def gMk (F:FnS) (i:Nat) (ga:FA) (ix:List Nat) (n:Nat) (g:En→Prop):En→Prop:=fun ρ=>EX.noOwn ρ∧ga ρ fun ts=>ts.length=n∧∃ ct:List T,ct.length=ix.length∧(∀ (j k:Nat),ix[j]?=some k→ct[j]?=ts[k]?)∧g (ρ.set i (some (.clo F ct,false)))
theorem ws_mk (i:Nat) (Fn:FnOk X.prog X.w X.K X.mg X.base CX0 1 f fd ps (spMk F ix n P0)) (hr:Room 1 X.A) (hg:Gl X mk) (hm:X.mg mk=some (.ref f)) (hk:PySem.W.keepIn X.K (.ref f)=true) (hb:Binds X.K fd ps []) (ha:VA X Z (e :: es) ga) (hZ:Z.P=[]) (hP:P0∈Z.Ox) (hT:Z.H0 P0=some (.tbl #[])) (hixn:∀ (j k:Nat),ix[j]?=some k→k < n)
  (hrest:∀ H0,(∀ b o,Z.H0 b=some o→b≠P0→H0 b=some o)→WSs X ⟨H0,[],Z.Ox⟩ rest g) (hN:X.N.Nodup) (hi:X.N[i]?=some y:=by rfl) (hy:Loc X.env.scope y:=by exact Or.inl rfl) (hdb:(mk == ("__debug__" : Str))=false:=by decide) (he:starEach (e :: es) X.env=(false,eval e X.env) :: starEach es X.env:=by rfl) (hpl:(backTo pos (starEach es X.env)).any (·.1)=false:=by rfl)
  (hs:swapsWith (.Call (.Name mk p) (e :: es) [] pos) (some (.Name y py)) pos'.line X.env=pure false:=by rfl) (hf:X.fn y=true:=by rfl) :
  WSs X Z (.Assign [.Name y py] (.Call (.Name mk p) (e :: es) [] pos) pos' :: rest) (gMk F i ga ix n g):=fun pins s σ H D O ρ I E ⟨no,hga⟩ hD=>by
 refine wpAny_execs_cons (thn (ps_set (pos:=pos') (pos':=py) hN hi hy (pe_call Fn hr hg hm hk hb .nil pass0 (ha []) hdb he hpl) hs (.inl hf) pins s σ H { nx:=fun σ' H'=>∃ O' ρ',EnvAt X.K ⟨H',[],Z.Ox⟩ [] O' ρ' σ' H'∧g ρ'∧∀ b o,Z.H0 b=some o→b≠P0→H' b=some o,rt:=D.rt } I ⟨ρ,O,_,E,hga,fun ts ⟨hn,ct,hc,hci,hgc⟩ vs H1 s1 a1=>?_⟩) fun fl s1 q=>?_)
 · have E1:=E.same s1
   have hP1:H1 P0=some (.tbl #[]):=E1.keep P0 _ hT (by rw [hZ]; simp)
   have lv:vs.length=ts.length:=a1.length
   show spMk F ix n P0 (vs ++ []) H1 _ E0
   rw [List.append_nil]
   refine ⟨by rw [lv,hn],hP1,fun f' H' ws hw hwi M=>?_⟩
   obtain ⟨tb,htb⟩:=M.tab
   have E2:=env_reb E1 no M.keep hP hP1 (by rw [htb]; simp)
   have inA:P0∈av Z O:=List.mem_append_right _ hP
   have hA:At X.K H' (av ⟨H',[],Z.Ox⟩ O) (.clo F ct) (.ref f'):=by
    simp only [At]
    refine ⟨f',ws,rfl,M.clo _ fun a h=>E1.avH a h,AtL.iff.mpr (paired_of (by rw [hw,hc]) fun j v t hv ht=>?_)⟩
    have hjl:j < ix.length:=by rw [← hw]; exact (List.getElem?_eq_some_iff.mp hv).1
    obtain ⟨k,hk⟩:∃ k,ix[j]?=some k:=⟨_,List.getElem?_eq_getElem hjl⟩
    rw [hwi j k hk] at hv
    rw [hci j k hk] at ht
    obtain ⟨v',e1,e2⟩:=a1.get ht
    rw [hv] at e1
    cases e1
    exact at_reb M.keep inA hP1 e2
   exact ⟨_,_,E2.put (i:=i) (fun p hp=>nomatch hp) hA,hgc,fun b o z nb=>M.keep b o (E1.keep b o z (by rw [hZ]; simp)) nb⟩
 · cases fl with
   | next=>obtain ⟨σ',H',J,O',ρ',E',hg',hfr⟩:=q; exact hrest H' hfr pins s1 σ' H' D O' ρ' J E' hg' hD
   | ret v=>exact q
   | brk=>obtain ⟨_,_,_,z⟩:=q; exact z.elim
   | cont=>obtain ⟨_,_,_,z⟩:=q; exact z.elim
end
section
variable {P:Program} {w:World} {K:PySem.W.Frag} {mg:Str→Option Value} {base:Heap} {P1 P2:Addr}
def spLaw (K:PySem.W.Frag) (P1 P2:Addr):Sp:=fun vs H Q _=>∃ (a:Addr) (ns:List Int),vs=[.ref a]∧ns.length≤63∧At K H [P1,P2] (.lst (ns.map .int)) (.ref a)∧H P1=some (.tbl #[])∧H P2=some (.tbl #[])∧∀ H',Q (.bl true) H'
theorem fn_law {st:Stmt} {f:Addr} {fd:FuncData} {N:List Str} {k:Nat} (Fl:Fun K "law" "law" st f fd) (S:FnScope N ["_law_script"] (defScope st))
  (hbody:∀ (cdv:Value) (A:Around) (outer:List Env) (s:Shared) (H:Hp) (E:XK),Room k (A.deeper (envOfC "law" (defScope st) s.heap.objs.size f cdv))→∀ ns:List Int,ns.length≤63→H P1=some (.tbl #[])→H P2=some (.tbl #[]) →
    ∃ g,WSs (cxOf CX0 P w K mg base N "law" (defScope st) f cdv A outer s H E).nox ⟨H,[],[P1,P2]⟩ (defBody st) g∧g (some (.lst (ns.map .int),false) :: List.replicate (N.length - 1) none)) :
  FnOk P w K mg base CX0 (k+1) f fd ["_law_script"] (spLaw K P1 P2):=by
 refine Fl.ok S (fun vs H Q E h=>?_) (fun cdv A outer s H vs Q E hr h=>?_)
 · obtain ⟨a,ns,rfl,_⟩:=h; rfl
 · obtain ⟨a,ns,rfl,h63,hA,h1,h2,hQ⟩:=h
   obtain ⟨g,hg,hq⟩:=hbody cdv A outer s H E hr ns h63 h1 h2
   refine ⟨fun D σ H'=>∃ O ρ,EnvAt K ⟨H,[],[P1,P2]⟩ [] O ρ σ H'∧g ρ∧∀ H',D.rt (.bl true) H',fun pins s' σ H' D I ⟨O,ρ,E,hg',hD⟩=>hg pins s' σ H' D O ρ I E hg' hD,?_⟩
   refine ⟨List.replicate N.length none,_,?_,hq,hQ⟩
   have r0:roots (List.replicate N.length (none:Option Addr))=[]:=by
    unfold roots
    induction N.length with
    | zero=>rfl
    | succ n ih=>rw [List.replicate_succ,List.filterMap_cons]; exact ih
   have hl:1≤N.length:=by have:=congrArg List.length S.pre; rw [List.length_take] at this; simp at this; omega
   refine ⟨?_,?_,fun i e h=>?_,by rw [r0]; exact List.nodup_nil,fun a h=>(by rw [r0] at h; cases h),fun p hp=>(nomatch hp),fun b h=>?_,fun b o e _=>e,fun p hp=>(nomatch hp)⟩
   · unfold L2.start; simp
   · rw [List.length_replicate,List.length_cons,List.length_replicate]; omega
   · cases i with
     | zero =>
       cases h
       exact ⟨none,some (.ref a),by rw [List.getElem?_replicate,if_pos (by omega)],rfl,rfl,.ref a,rfl,by unfold av; rw [r0]; exact hA⟩
     | succ j =>
       have h:(List.replicate (N.length - 1) (none:Option (T×Bool)))[j]?=some e:=h
       rw [List.getElem?_replicate] at h
       split at h
       · rename_i hj
         cases h
         refine ⟨none,none,by rw [List.getElem?_replicate,if_pos (by omega)],?_,rfl⟩
         unfold L2.start
         show (some (V.ref a) :: List.replicate (N.length - 1) none)[j+1]?=some none
         rw [List.getElem?_cons_succ,List.getElem?_replicate,if_pos hj]
       · cases h
   · rcases List.mem_cons.mp h with rfl | h
     · rw [h1]; simp
     · rw [List.mem_singleton.mp h,h2]; simp
end
end CLO
namespace CLO
open PySem PySem.Spec PyProof.Rows L2 VT
open PySem.W (CodeHd tabObj)
theorem law_callT {P:Program} {w:World} {K:PySem.W.Frag} {mg mb:Str→Option Value} {k:Nat} {fa a P1 P2 c1 c2:Addr} {fd:FuncData} {x:Str} {s₁:Shared} {vs:List Value} {ns:List Int}
  (KX:K.In s₁.heap) (hns:s₁.heap.Ns mainGlobals mg) (hb:s₁.heap.Ns builtinsNs mb) (hbb:∀ x:Str,x≠"__name__"→mb x=bootBuiltins x) (hlim:s₁.heap.NoLimit) (hg:s₁.gens = #[])
  (ha:s₁.heap.get? a=some { cls:=.type "list",data:=.seq vs.toArray }) (hi:IntsAre vs ns) (hl:ns.length≤63) (hr:Room k callerA)
  (hT1:s₁.heap.TableAt c1 P1 #[]) (hT2:s₁.heap.TableAt c2 P2 #[]) (hC1:CodeHd s₁.heap c1 P1) (hC2:CodeHd s₁.heap c2 P2) (h12:P1≠P2) (hK1:K.lookup P1=none) (hK2:K.lookup P2=none) (hbm:∃ bm o,mg "__builtins__" = some (.ref bm)∧bm≠builtinsNs∧bm≠mainGlobals∧s₁.heap.get? bm=some o∧o.cls = .type "module"∧o.dict=some builtinsNs∧o.data = .plain)
  (F:∀ base:Heap,K.In base→base.Ns mainGlobals mg→Tab mg base c1 P1→Tab mg base c2 P2→FnOk P w K mg base CX0 k fa fd [x] (spLaw K P1 P2)) (hbind:∀ (s:Shared) (u:Value),BindsTo s fd ⟨[u],[]⟩ [(x,u)]) :
  codeAny (model P w) callerA (.call (.ref fa) ⟨[.ref a],[]⟩) (fun r s'=>r = .ok (.ret (.bool true))∧OldK s₁.heap s'.heap∧s'.os=s₁.os∧AllBare s'.gens) s₁:=by
 have rv:=vals_ints hi
 have lenV:=hi.length
 have t1:s₁.heap.get? P1=some (tabObj #[]):=hT1.2
 have t2:s₁.heap.get? P2=some (tabObj #[]):=hT2.2
 have na1:a≠P1:=fun z=>by rw [z,t1] at ha; cases ha
 have na2:a≠P2:=fun z=>by rw [z,t2] at ha; cases ha
 have core:∀ Hs:Hp,Only Hs→SqL K Hs a (ns.map V.int)→HOk P w Hs s₁.heap→(∀ b,Hs b≠none→b=a)→(Hs a≠none→K.lookup a=none) →
   codeAny (model P w) callerA (.call (.ref fa) ⟨[.ref a],[]⟩) (fun r s'=>r = .ok (.ret (.bool true))∧OldK s₁.heap s'.heap∧s'.os=s₁.os∧AllBare s'.gens) s₁:=by
  intro Hs hO hS hok hA hK
  obtain ⟨H,hH⟩:∃ H:Hp,H=fun b=>if b=P1 then some (.tbl #[]) else if b=P2 then some (.tbl #[]) else Hs b:=⟨_,rfl⟩
  have e1:H P1=some (.tbl #[]):=by rw [hH]; exact if_pos rfl
  have e2:H P2=some (.tbl #[]):=by rw [hH]; show (if P2=P1 then _ else _)=_; rw [if_neg h12.symm,if_pos rfl]
  have e3:∀ b,b≠P1→b≠P2→H b=Hs b:=fun b x y=>by rw [hH]; show (if b=P1 then _ else _)=_; rw [if_neg x,if_neg y]
  have tr:∀ b,H b≠none→b=a∨b=P1∨b=P2:=fun b n=>by
   by_cases x:b=P1
   · exact .inr (.inl x)
   by_cases y:b=P2
   · exact .inr (.inr y)
   · rw [e3 b x y] at n; exact .inl (hA b n)
  have none_of:∀ b,b≠a→b≠P1→b≠P2→H b=none:=fun b x y z=>by
   cases q:H b with
   | none=>rfl
   | some u=>rcases tr b (by rw [q]; simp) with m | m | m; exact absurd m x; exact absurd m y; exact absurd m z
  have sme:∀ b u,Hs b=some u→H b=some u:=fun b u z=>by
   have:b=a:=hA b (by rw [z]; simp)
   rw [e3 b (by rw [this]; exact na1) (by rw [this]; exact na2)]; exact z
  have hokH:HOk P w H s₁.heap:=fun b u z=>by
   by_cases x:b=P1
   · rw [x,e1] at z; cases z; rw [x]; exact t1
   by_cases y:b=P2
   · rw [y,e2] at z; cases z; rw [y]; exact t2
   rw [e3 b x y] at z
   exact (hok b u z).stay (fun _ _ _ q=>q) (fun c q=>sme c _ q) fun c xs q=>sme c _ q
  have base_of:∀ {b:Addr} {o:Obj},s₁.heap.get? b=some o→H b=none→(hidT s₁.heap H).get? b=some o:=fun e n=>hidT_get e n
  have noD:∀ {b:Addr} {o:Obj} {es:Array DictEntry} {ep:Nat},s₁.heap.get? b=some o→o.data = .dict es ep→H b=none:=fun {b o es ep} e d=>none_of b (fun z=>by rw [z,ha] at e; cases e; cases d) (fun z=>by rw [z,t1] at e; cases e; cases d) (fun z=>by rw [z,t2] at e; cases e; cases d)
  have nsK:∀ {b:Addr} {m:Str→Option Value},s₁.heap.Ns b m→(hidT s₁.heap H).Ns b m:=fun {b m} ⟨o,es,ep,e,d,r⟩=>⟨o,es,ep,base_of e (noD e d),d,r⟩
  have hKb:K.In (hidT s₁.heap H):=fun b o e=>base_of (KX b o e) (by
   cases q:H b with
   | none=>rfl
   | some u =>
     rcases tr b (by rw [q]; simp) with m | m | m
     · rw [m] at q e
       have:Hs a≠none:=fun z=>by rw [e3 a na1 na2,z] at q; cases q
       rw [hK this] at e; cases e
     · rw [m,hK1] at e; cases e
     · rw [m,hK2] at e; cases e)
  have hM:Mod K mg (hidT s₁.heap H):=⟨hKb,nsK hns,⟨mb,nsK hb,hbb⟩,let ⟨mc,h1,h2⟩:=hlim; ⟨mc,nsK h1,h2⟩⟩
  have e0:Env0 P w K mg (hidT s₁.heap H) callerA [] s₁ H:=⟨rfl,hM,fun b o e=>of_hidT e,Nat.le_of_eq (hidT_size _ _),trivial,fun b hb=>absurd (show b∈([]:List Addr) from hb) (by simp),hokH,.of_eq hg⟩
  obtain ⟨bm,bo,b1,b2,b3,b4,b5,b6,b7⟩:=hbm
  have bmH:H bm=none:=none_of bm (fun z=>by rw [z,ha] at b4; cases b4; injection b5 with b5; exact absurd b5 (by decide)) (fun z=>by rw [z,t1] at b4; cases b4; cases b5) (fun z=>by rw [z,t2] at b4; cases b4; cases b5)
  have cod:∀ {c P0:Addr},CodeHd s₁.heap c P0→CodeHd (hidT s₁.heap H) c P0:=fun {c P0} h=>by
   obtain ⟨o,ovs,file,tf,flags,tg,inF,text,tt,g1,g2,r⟩:=h
   exact ⟨o,ovs,file,tf,flags,tg,inF,text,tt,base_of g1 (none_of c (fun z=>by rw [z,ha] at g1; cases g1; injection g2 with g2; exact absurd g2 (by decide)) (fun z=>by rw [z,t1] at g1; cases g1; cases g2) (fun z=>by rw [z,t2] at g1; cases g1; cases g2)),g2,r⟩
  have tab:∀ {c P0:Addr},CodeHd s₁.heap c P0→H P0=some (.tbl #[])→Tab mg (hidT s₁.heap H) c P0:=fun {c P0} h q=>⟨cod h,bm,bo,b1,b2,b3,fun z=>by (rw [← z,bmH] at q; cases q),base_of b4 bmH,b5,b6,b7⟩
  have sp:spLaw K P1 P2 [.ref a] H (fun v _=>v = .bl true) fun _ _ _=>False:=by
   refine ⟨a,ns,rfl,hl,?_,e1,e2,fun _=>rfl⟩
   simp only [At]
   refine ⟨a,ns.map V.int,rfl,hS.imp (fun z=>⟨?_,by simp [na1,na2]⟩) id,?_⟩
   · rcases z with z | ⟨o,z⟩
     · exact .inl (sme _ _ z)
     · exact .inr ⟨o,sme _ _ z⟩
   · clear hS hi rv lenV hl
     induction ns with
     | nil=>exact AtL.nil
     | cons n ns ih=>exact AtL.cons at_int ih
  refine codeAny_mono ((F _ hKb (nsK hns) (tab hC1 e1) (tab hC2 e2)).run callerA [] s₁ H ⟨[.ref a],[]⟩ [.ref a] [.ref a] _ _ hr e0 (hbind s₁ (.ref a)) (.cons rfl .nil) sp) fun r s' h=>?_
  cases r with
  | error e=>exact False.elim h
  | ok fl =>
    cases fl with
    | next=>exact False.elim h
    | brk=>exact False.elim h
    | cont=>exact False.elim h
    | ret u =>
      obtain ⟨v,H',os,bare,un,hok',r',q⟩:=h
      have q':v = .bl true:=q
      subst q'
      obtain rfl:u=Value.bool true:=r'
      have kept:∀ b o,s₁.heap.get? b=some o→b≠P1→b≠P2→s'.heap.get? b=some o:=fun b o e x y=>by
       cases q:H b with
       | none=>exact un.keep b o e q (by intro z; exact absurd (show b∈([]:List Addr) from z) (by simp)) (by simp)
       | some u =>
         rw [e3 b x y] at q
         rcases hO b with z | ⟨ob,xs,z⟩
         · rw [q] at z; cases z
         · have z2:=un.frzs b ob _ (sme b _ z)
           obtain ⟨g1,_⟩:=hok b _ z
           obtain ⟨g2,_⟩:=hok' b _ z2
           rw [e] at g1; cases g1
           exact g2
      have grown:∀ P0,H P0=some (.tbl #[])→∃ more,s'.heap.get? P0=some (tabObj (#[] ++ more)):=fun P0 z=>by
       obtain ⟨more,z2⟩:=un.tbls P0 _ z
       exact ⟨more,hok' P0 _ z2⟩
      refine ⟨rfl,⟨fun b o e=>?_,fun b o e=>?_⟩,os,bare⟩
      · by_cases x:b=P1
        · obtain ⟨more,z⟩:=grown P1 e1
          rw [x,t1] at e
          cases e
          exact .inr (.inl ⟨by rw [x]; exact hT1.isCodeTable,rfl,#[],more,rfl,by rw [x]; exact z⟩)
        by_cases y:b=P2
        · obtain ⟨more,z⟩:=grown P2 e2
          rw [y,t2] at e
          cases e
          exact .inr (.inl ⟨by rw [y]; exact hT2.isCodeTable,rfl,#[],more,rfl,by rw [y]; exact z⟩)
        exact .inl (kept b o e x y)
      · by_cases x:b=P1
        · obtain ⟨more,z⟩:=grown P1 e1; exact ⟨_,by rw [x]; exact z⟩
        by_cases y:b=P2
        · obtain ⟨more,z⟩:=grown P2 e2; exact ⟨_,by rw [y]; exact z⟩
        exact ⟨o,kept b o e x y⟩
 have hl':ns.length≤sizeLine:=Nat.le_trans hl (by decide)
 cases hk:K.lookup a with
 | some o =>
   have e:=KX a o hk
   rw [ha] at e
   cases e
   refine core (fun _=>none) (fun _=>.inl rfl) (.inr ⟨_,vs.toArray,_,hk,rfl,rfl,rfl,by rw [List.size_toArray,lenV]; exact hl',by simpa using rv⟩) (fun b u z=>by have z':(none:Option HO)=some u:=z; cases z') (fun b z=>absurd rfl z) fun z=>absurd rfl z
 | none =>
   refine core (fun b=>if b=a then some (.frz { cls:=.type "list",data:=.seq vs.toArray } (.lst (ns.map V.int))) else none) (fun b=>?_) (.inl (.inr ⟨{ cls:=.type "list",data:=.seq vs.toArray },if_pos rfl⟩)) (fun b u z=>?_) (fun b z=>?_) fun _=>hk
   · by_cases hb:b=a
     · exact .inr ⟨_,_,if_pos hb⟩
     · exact .inl (if_neg hb)
   · by_cases hb:b=a
     · have z':=(if_pos hb).symm.trans z
       cases z'
       subst hb
       exact ⟨ha,by rw [List.length_map]; exact hl',vs,_,rv,ha⟩
     · have z':=(if_neg hb).symm.trans z
       cases z'
   · by_cases hb:b=a
     · exact hb
     · exact absurd (if_neg hb) z
end CLO
set_option exponentiation.threshold 4000
namespace K76
open PySem L2 VT CLO EX
inductive C5 (ρ:En):Prop
 | mk (ns:List Int) (k n:Int) (ps:List T) (hp:Pts k ps) (n0:0≤n) (n9:n < 10 ^ 9) (hρ:ρ=[vw (.lst (ns.map .int)),vw (.lst ps),vw (.int n),vw (.int k),none,none,none,none])
inductive C3 (ρ:En):Prop
 | mk (ns:List Int) (ps:List T) (hp:Pts (ns.getD 0 0 % 4) ps) (hρ:ρ=[vw (.lst (ns.map .int)),vw (.lst ps),none,none,none,none,none,none])
theorem cut10 (ns:List Int):∃ ms:List Int,cutT (ns.map T.int) (some 3) (some 13)=ms.map T.int∧ms.length≤10:=by
 refine ⟨_,by unfold cutT; rw [← List.map_drop,← List.map_take],?_⟩
 rw [List.length_take]
 have a:=HT.sIx_nat (ns.map T.int).length 0 3
 have b:=HT.sIx_nat (ns.map T.int).length (ns.map T.int).length 13
 rw [show ((3:Nat):Int)=3 from rfl] at a
 rw [show ((13:Nat):Int)=13 from rfl] at b
 rw [a,b]
 omega
theorem pts1 (a:Int) {ms:List Int} (h:ms.length≤10):Pts (a % 4) (ms.map fun c=>T.int (partD c)):=⟨⟨Int.emod_nonneg _ (by decide),Int.emod_lt_of_pos _ (by decide)⟩,by rw [List.length_map]; exact h,fun t ht=>by
 obtain ⟨c,_,rfl⟩:=List.mem_map.mp ht
 exact .inl ⟨_,rfl,partD_b c⟩⟩
theorem pts2 {a:Int} {ms:List Int} (h:ms.length≤10) (hB:inT (.int (a % 4)) [.int 1,.int 2]=true):Pts (a % 4) (ms.map fun c=>T.lst [.int (partD c)]):=⟨⟨Int.emod_nonneg _ (by decide),Int.emod_lt_of_pos _ (by decide)⟩,by rw [List.length_map]; exact h,fun t ht=>by
 obtain ⟨c,_,rfl⟩:=List.mem_map.mp ht
 refine .inr ⟨?_,_,rfl⟩
 have h2:((1:Int) == a % 4 || ((2:Int) == a % 4 || false))=true:=hB
 simp only [Bool.or_false,Bool.or_eq_true,beq_iff_eq] at h2
 omega⟩
theorem ix2' {a b:T}:∀ (j k:Nat),[1,0][j]?=some k→[b,a][j]?=[a,b][k]?
 | 0,_,h=>by cases h; rfl
 | 1,_,h=>by cases h; rfl
 | _+2,_,h=>by cases h
theorem ix3' {a b c:T}:∀ (j k:Nat),[1,2,0][j]?=some k→[b,c,a][j]?=[a,b,c][k]?
 | 0,_,h=>by cases h; rfl
 | 1,_,h=>by cases h; rfl
 | 2,_,h=>by cases h; rfl
 | _+3,_,h=>by cases h
theorem no8 {a b c d e f g h:Option T}:noOwn [a.map (·,false),b.map (·,false),c.map (·,false),d.map (·,false),e.map (·,false),f.map (·,false),g.map (·,false),h.map (·,false)]:=by
 intro i t
 match i with
 | 0=>intro z; cases a <;> cases z
 | 1=>intro z; cases b <;> cases z
 | 2=>intro z; cases c <;> cases z
 | 3=>intro z; cases d <;> cases z
 | 4=>intro z; cases e <;> cases z
 | 5=>intro z; cases f <;> cases z
 | 6=>intro z; cases g <;> cases z
 | 7=>intro z; cases h <;> cases z
 | i+8=>intro z; cases z
section
variable {P:Program} {w:World} {K:PySem.W.Frag} {mg:Str→Option Value} {base:Heap}
abbrev n_law:List Str:=["_law_script","_law_parts","_law_number","_law_kind","_law_come","_law_wanted","_law_handed","_law_told"]
theorem sc_law:FnScope n_law ["_law_script"] (defScope s_law):=⟨rfl,rfl,rfl,by decide +kernel,rfl,by decide +kernel,by decide +kernel⟩
theorem nd_law_c0:(n_law ++ (["_law_cell"]:List Str)).Nodup:=by decide +kernel
theorem nd_law_c1:(n_law ++ (["_law_part_here"]:List Str)).Nodup:=by decide +kernel
theorem ok_law {f f_coming f_wanting P1 P2:Addr} {fd fd_coming fd_wanting:FuncData} (Fl:Fun K "law" "law" s_law f fd) (M:MgA mg) (h12:P1≠P2)
  (m_coming:mg "_law_coming" = some (.ref f_coming)) (k_coming:PySem.W.keepIn K (.ref f_coming)=true) (b_coming:Binds K fd_coming ["_law_kind","_law_spoil"] []) (F_coming:FnOk P w K mg base CX0 1 f_coming fd_coming ["_law_kind","_law_spoil"] (spMk FC [1,0] 2 P1))
  (m_wanting:mg "_law_wanting" = some (.ref f_wanting)) (k_wanting:PySem.W.keepIn K (.ref f_wanting)=true) (b_wanting:Binds K fd_wanting ["_law_kind","_law_parts","_law_number"] []) (F_wanting:FnOk P w K mg base CX0 1 f_wanting fd_wanting ["_law_kind","_law_parts","_law_number"] (spMk FW [1,2,0] 3 P2))
  (C_cell_at:Cal P w K mg base "_law_cell_at" ["_law_script","_law_k"] 1 (spP K 2 gCell)) (C_part:Cal P w K mg base "_law_part" ["_law_cell"] 1 (spP K 1 gPart)) (C_right:Cal P w K mg base "_law_right" ["_law_parts","_law_told","_law_come","_law_wanted"] 3 (spP K 4 gRight)) (C_refused:Cal P w K mg base "_law_refused" ["_law_parts","_law_come","_law_wanted"] 8 (spP K 3 gRefused)) (C_fewest:Cal P w K mg base "fewest" ["parts","ending","wanted"] 7 (spD K 3 gFew)) :
  FnOk P w K mg base CX0 9 f fd ["_law_script"] (spLaw K P1 P2):=by
 obtain ⟨f_fewest,fd_fewest,m_fewest,k_fewest,b_fewest,F_fewest⟩:=C_fewest
 refine fn_law (k:=8) Fl sc_law fun cdv A outer s H E hr ns h63 hP1 hP2=>?_
 have nd:=sc_law.nd
 have hu:=Room.u101 hr
 have np:∀ {i:Nat} {H:Hp},NotPar ⟨H,[],[P1,P2]⟩ i:=np0
 have C_come:=ok_come (P:=P) (w:=w) (K:=K) (base:=base) M
 have C_wanted:=ok_wanted (P:=P) (w:=w) (K:=K) (base:=base) M
 refine ⟨_,ws_cons (vs_comp (i:=1) (ts:=["_law_cell"]) nd rfl (Or.inl rfl) rfl (by rfl) (vi_seq (VP.ve (vp_slice (vr_var 0) (vo_some (VP.vr vp_int)) (vo_some (VP.vr vp_int))))) (fun _ _ _ _ _ _=>(vg_name (i:=8) nd_law_c0 rfl (Or.inl rfl) (np (H:=H)))) (fun _ _ _ _ _ _=>vcs_nil) (fun _ _ _ _ _ _=>(VP.ve (vp_callC C_part hr (va_cons (ve_var 8) va_nil)))) np) (ws_cons (vs_if (VW.vc (vw_and (vc_eq hu (VP.vr (vp_mod (VP.vr (vp_callC C_cell_at hr (va_cons (ve_var 0) (va_cons (VP.ve vp_int) va_nil)))) (VP.vr vp_int))) (VP.vr vp_int)) (vw_and1 (vc_in (VP.vr (vp_mod (VP.vr (vp_callC C_cell_at hr (va_cons (ve_var 0) (va_cons (VP.ve vp_int) va_nil)))) (VP.vr vp_int))) (VP.vr (vp_tup (va_cons (VP.ve vp_int) (va_cons (VP.ve vp_int) va_nil))))))))
    (vss_one (vs_comp (i:=1) (ts:=["_law_part_here"]) nd rfl (Or.inl rfl) rfl (by rfl) (vi_seq (ve_var 1)) (fun _ _ _ _ _ _=>(vg_name (i:=8) nd_law_c1 rfl (Or.inl rfl) (np (H:=H)))) (fun _ _ _ _ _ _=>vcs_nil) (fun _ _ _ _ _ _=>(VP.ve (vp_lst (va_cons (ve_var 8) va_nil)))) np))
    vss_nil) (ws_weak (g':=C3) (ws_cons (vs_set (i:=2) nd rfl (Or.inl rfl) (VP.vx (vp_mod (VP.vr (vp_callC C_cell_at hr (va_cons (ve_var 0) (va_cons (VP.ve vp_int) va_nil)))) (VP.vr (vp_powB (VP.vr vp_int) (VP.vr vp_int))))) np) (ws_cons (vs_set (i:=3) nd rfl (Or.inl rfl) (VP.vx (vp_mod (VP.vr (vp_callC C_cell_at hr (va_cons (ve_var 0) (va_cons (VP.ve vp_int) va_nil)))) (VP.vr vp_int))) np) (ws_weak (g':=C5) (ws_mk 4 F_coming (hr.mono (by decide)) (by rfl) m_coming k_coming b_coming (va_cons (ve_var 3) (va_cons (VP.ve (vp_mod (VP.vr (vp_fdivB (VP.vr (vp_callC C_cell_at hr (va_cons (ve_var 0) (va_cons (VP.ve vp_int) va_nil)))) (VP.vr vp_int))) (VP.vr vp_int))) va_nil)) rfl List.mem_cons_self hP1 ?ix1 (fun H0 fr=>ws_mk 5 F_wanting (hr.mono (by decide)) (by rfl) m_wanting k_wanting b_wanting (va_cons (ve_var 3) (va_cons (ve_var 1) (va_cons (ve_var 2) va_nil))) rfl (List.mem_cons_of_mem _ List.mem_cons_self) (fr _ _ hP2 h12.symm) ?ix2 (fun H1 fr1=>ws_end
  (vss_cons (vs_set (i:=6) nd rfl (Or.inl rfl) (VP.vx (vp_callTy call_list_of callT_list (by rfl) M.list b_list (var_cons (vr_var 1) var_nil))) np) (vss_cons (vs_ifNX (vx_callQ1 5 C_wanted (hr.mono (by decide)) (vx_callN 4 C_come (hr.mono (by decide)) (vp_callTy call_list_of callT_list (by rfl) M.list b_list (var_cons (vr_var 1) var_nil)))) (vss_one (vs_ret (VP.vx (vp_and (vp_callC C_refused hr (va_cons (ve_var 6) (va_cons (ve_var 4) (va_cons (ve_var 5) va_nil)))) (vp_one (vp_eq hu (vr_var 6) (vr_var 1))))))) vss_nil)
    (vss_spoil2 7 nd rfl (Or.inl rfl) (Or.inl rfl) np (vd_call F_fewest (hr.mono (by decide)) (by rfl) m_fewest k_fewest b_fewest (va_cons (ve_var 6) (va_cons (ve_var 4) (va_cons (ve_var 5) va_nil)))) (VW.vc (vw_or (vc_not (vc_val (vp_callC C_right hr (va_cons (ve_var 1) (va_cons (ve_var 7) (va_cons (ve_var 4) (va_cons (ve_var 5) va_nil))))))) (vw_or1 (vc_ne hu (vr_var 6) (vr_var 1))))) (vss_one (vs_ret (VP.vx vp_bl))) (vss_one (vs_ret (VP.vx (vp_callC C_right hr (va_cons (ve_var 1) (va_cons (VP.ve (VD.vp (vd_call F_fewest (hr.mono (by decide)) (by rfl) m_fewest k_fewest b_fewest (va_cons (ve_var 6) (va_cons (ve_var 4) (va_cons (ve_var 5) va_nil)))))) (va_cons (ve_var 4) (va_cons (ve_var 5) va_nil)))))))))))) nd) nd) ?w5))) ?w3)),?main⟩
 case ix1 =>
  intro j k h
  match j with
  | 0=>cases h; decide
  | 1=>cases h; decide
  | j+2=>cases h
 case ix2 =>
  intro j k h
  match j with
  | 0=>cases h; decide
  | 1=>cases h; decide
  | 2=>cases h; decide
  | j+3=>cases h
 case w3 =>
  rintro ρ ⟨ns,ps,hp,rfl⟩
  refine ⟨rfl,ns,1,rfl,⟨by decide,by decide,bN 10⟩,by decide +kernel,rfl,ns,0,rfl,by decide,?_⟩
  exact ⟨ns,_,_,ps,hp,Int.emod_nonneg _ (by decide +kernel),Int.emod_lt_of_pos _ (by decide +kernel),rfl⟩
 case main =>
  obtain ⟨ms,em,hm⟩:=cut10 ns
  refine ⟨rfl,?_⟩
  show (cutT (ns.map T.int) (some 3) (some 13)).length≤sizeLine∧wComp _ _ _ _ (cutT (ns.map T.int) (some 3) (some 13)) _
  rw [em]
  refine ⟨le8 (by rw [List.length_map]; omega),wComp_mapL (f:=T.int) (u:=fun c=>.int (partD c)) (fun c hc r hr=>⟨rfl,c,rfl,hr⟩) ?_⟩
  refine ⟨rfl,ns,2,rfl,by decide,?_⟩
  by_cases hA:ns.getD 2 0 % 3=1
  · refine iteB (decide_eq_true hA) ?_
    refine ⟨rfl,ns,0,rfl,by decide,le8 (show 2≤1000 by decide),rfl,rfl,?_⟩
    by_cases hB:inT (.int (ns.getD 0 0 % 4)) [.int 1,.int 2]=true
    · refine iteB hB ?_
      refine ⟨rfl,le8 (by rw [List.length_map]; omega),?_⟩
      show wComp _ _ _ _ (ms.map _) _
      refine wComp_mapL (f:=fun c=>T.int (partD c)) (u:=fun c=>.lst [.int (partD c)]) (fun c hc r hr=>⟨le8 (show 1≤1000 by decide),hr⟩) ?_
      exact ⟨ns,_,pts2 hm hB,rfl⟩
    · refine iteN ((Bool.not_eq_true _).mp hB) ?_
      exact ⟨ns,_,pts1 _ hm,rfl⟩
  · refine iteN (decide_eq_false hA) ?_
    exact ⟨ns,_,pts1 _ hm,rfl⟩
 case w5 =>
  rintro ρ ⟨ns,k,n,ps,hp,n0,n9,rfl⟩
  obtain ⟨pp,pd⟩:=pts_plain hp
  have hself:=eqT_refl (.lst ps) pp
  have hdep:dep (.lst ps)≤100:=by simp only [dep]; omega
  refine ⟨no8 (a:=some _) (b:=some _) (c:=some _) (d:=some _) (e:=none) (f:=none) (g:=none) (h:=none),rfl,ns,2,rfl,⟨by decide,bN 3⟩,by decide,rfl,[.int (ns.getD 2 0 / 3 % 4),.int k],rfl,ix2',?_⟩
  refine ⟨no8 (a:=some _) (b:=some _) (c:=some _) (d:=some _) (e:=some _) (f:=none) (g:=none) (h:=none),rfl,[.lst ps,.int n,.int k],rfl,ix3',?_⟩
  refine ⟨⟨_,rfl⟩,_,rfl,rfl,ps,rfl,pp,k,_,ps,rfl,rfl,hp,fun us=>⟨_,rfl,by show (plainTs ps && true)=true; rw [pp]; rfl,come_plain hp,k,n,ps,ps,rfl,rfl,hp,hp,n0,n9,_,rfl,?_⟩⟩
  by_cases hw:wantD k n ps (comeD k ps)=true
  · refine iteB hw ?_
    refine ⟨rfl,k,_,n,ps,rfl,hp,n0,n9,hw,(show 7 < 8 by decide),⟨_,_,rfl⟩,rfl,k,_,n,ps,rfl,hp,n0,n9,pp,pp,hdep,?_⟩
    refine iteN (c:=!eqT (.lst ps) (.lst ps)) (by rw [hself]; rfl) ?_
    exact ⟨rfl,k,_,n,ps,rfl,hp,n0,n9,hw,rfl,k,_,n,ps,rfl,hp,n0,n9,rfl⟩
  · refine iteN ((Bool.not_eq_true _).mp hw) ?_
    refine ⟨rfl,k,_,n,ps,rfl,hp,n0,n9,(Bool.not_eq_true _).mp hw,pp,pp,hdep,?_⟩
    show Rt.vw (.bl (eqT (.lst ps) (.lst ps))) = .vw (.bl true)
    rw [hself]
end
end K76
namespace K76
open PySem PySem.Spec PyProof.Rows L2 VT CLO EX
section
variable {P:Program} {w:World} {K:PySem.W.Frag} {mg:Str→Option Value} {base:Heap}
theorem ok_coming {f c P1:Addr} {fd:FuncData} (D:Df K mg "_law_coming" s_coming ["_law_kind","_law_spoil"] f fd) (hc:fd.code = .ref c) (Tb:Tab mg base c P1):FnOk P w K mg base CX0 1 f fd ["_law_kind","_law_spoil"] (spMk FC [1,0] 2 P1):=by
 obtain ⟨oc,od,kV,doc,pm,an,cdv,ct,osl,rfl,lk,hcd⟩:=D.F.ex
 obtain rfl:cdv = .ref c:=hc
 refine fn_mk (N:=["_law_kind","_law_spoil","_law_come"]) (ig:=2) (free:=["_law_spoil","_law_kind"]) (clos:=fun L=>[("_law_spoil",L+2),("_law_kind",L+1)]) lk hcd ⟨rfl,rfl,rfl,by decide +kernel,rfl,by decide +kernel,by decide +kernel⟩ Tb rfl rfl (fun env=>rfl) (fun L cd=>rfl) (fun L=>rfl) (fun L=>by simp) ?_ ?_ rfl rfl rfl (by decide) (by decide) (by decide)
 · intro L q hq
   rcases List.mem_cons.mp hq with rfl | hq
   · rfl
   · cases List.mem_singleton.mp hq; rfl
 · intro j i h
   match j with
   | 0=>cases h; exact ⟨_,rfl,rfl,rfl⟩
   | 1=>cases h; exact ⟨_,rfl,rfl,rfl⟩
   | j+2=>cases h
theorem ok_wanting {f c P2:Addr} {fd:FuncData} (D:Df K mg "_law_wanting" s_wanting ["_law_kind","_law_parts","_law_number"] f fd) (hc:fd.code = .ref c) (Tb:Tab mg base c P2):FnOk P w K mg base CX0 1 f fd ["_law_kind","_law_parts","_law_number"] (spMk FW [1,2,0] 3 P2):=by
 obtain ⟨oc,od,kV,doc,pm,an,cdv,ct,osl,rfl,lk,hcd⟩:=D.F.ex
 obtain rfl:cdv = .ref c:=hc
 refine fn_mk (N:=["_law_kind","_law_parts","_law_number","_law_wanted"]) (ig:=3) (free:=["_law_parts","_law_number","_law_kind"]) (clos:=fun L=>[("_law_parts",L+2),("_law_number",L+3),("_law_kind",L+1)]) lk hcd ⟨rfl,rfl,rfl,by decide +kernel,rfl,by decide +kernel,by decide +kernel⟩ Tb rfl rfl (fun env=>rfl) (fun L cd=>rfl) (fun L=>rfl) (fun L=>by simp) ?_ ?_ rfl rfl rfl (by decide) (by decide) (by decide)
 · intro L q hq
   rcases List.mem_cons.mp hq with rfl | hq
   · rfl
   rcases List.mem_cons.mp hq with rfl | hq
   · rfl
   · cases List.mem_singleton.mp hq; rfl
 · intro j i h
   match j with
   | 0=>cases h; exact ⟨_,rfl,rfl,rfl⟩
   | 1=>cases h; exact ⟨_,rfl,rfl,rfl⟩
   | 2=>cases h; exact ⟨_,rfl,rfl,rfl⟩
   | j+3=>cases h
end
theorem tab_of {K:PySem.W.Frag} {h:Heap} {c P0 P1:Addr} {ps:Array Value} (X:K.In h) (e:tabB K c P0=true) (t:h.TableAt c P1 ps):P1=P0∧K.lookup P0=none:=by
 unfold tabB at e
 rw [Bool.and_eq_true] at e
 obtain ⟨e1,e2⟩:=e
 refine ⟨?_,Option.isNone_iff_eq_none.mp e2⟩
 obtain ⟨⟨o,vs,t1,t2,t3,t4⟩,_⟩:=t
 split at e1
 · rename_i cl dd vs' sl hk
   have:=X c _ hk
   rw [t1] at this
   cases this
   cases t3
   rw [t4] at e1
   exact beq_iff_eq.mp e1
 · cases e1
end K76
namespace K76Z
open PySem L2 VT
theorem df_mk {K:PySem.W.Frag} {h:Heap} {mg:Str→Option Value} (X:K.In h) (G:h.Ns mainGlobals mg) {x:Str} {st:Stmt} {ps:List Str} {f:Addr} {oc:Value} {od an:Option Addr} {osl:Array (Option Value)} {kV doc pm cdv ct:Value}
  (a:PySem.W.nsIn K mainGlobals x=some (some (.ref f))) (l:K.lookup f=some ⟨oc,od,.func (PySem.W.fnOf x x (defArgs st) (defBody st) (defScope st) .none kV doc pm an cdv ct),osl⟩)
  (c:PySem.W.codeIn K cdv x=true) (k:PySem.W.keepIn K (.ref f)=true)
  (hb:∀ (kV doc pm:Value) (an:Option Addr) (cdv ct:Value) (us:List Value),us.length=ps.length→bindArgs (PySem.W.fnOf x x (defArgs st) (defBody st) (defScope st) .none kV doc pm an cdv ct) ⟨us,[]⟩=pure (ps.zip us)) :
  ∃ f fd,Df K mg x st ps f fd:=by
 have F:=fun_mk (st:=st) l c k
 exact ⟨f,_,F,PySem.W.mg_of X G a,F.binds hb⟩
theorem arg0 {C:List Value→Prop} (h:C []):∀ us:List Value,us.length=0→C us
 | [],_=>h
theorem argS {n:Nat} {C:List Value→Prop} (h:∀ a,∀ us:List Value,us.length=n→C (a :: us)):∀ us:List Value,us.length=n+1→C us
 | a :: us,e=>h a us (Nat.succ.inj e)
theorem arg1 {C:List Value→Prop} (h:∀ a,C [a]):∀ us:List Value,us.length=1→C us:=argS fun a=>arg0 (h a)
def BN:List Str→(List Value→Prop)→Prop
 | [],C=>C []
 | _ :: ps,C=>∀ v,BN ps fun us=>C (v :: us)
theorem bnA:∀ {ps:List Str} {C:List Value→Prop},BN ps C→∀ us:List Value,us.length=ps.length→C us
 | [],_,h,[],_=>h
 | _ :: _,_,h,v :: us,e=>bnA (h v) us (Nat.succ.inj e)
theorem dM {K:PySem.W.Frag} {h:Heap} {mg:Str→Option Value} {D:Prop} (X:K.In h) (G:h.Ns mainGlobals mg) {x:Str} {st:Stmt} {ps:List Str} {f c:Addr} {pm:Value} (e:q4 K x f c=v4 x st f pm c) (k:∀ {f:Addr} {fd:FuncData},Df K mg x st ps f fd→D)
  (hb:∀ (kV doc pm:Value) (an:Option Addr) (cdv ct:Value),BN ps fun us=>bindArgs (PySem.W.fnOf x x (defArgs st) (defBody st) (defScope st) .none kV doc pm an cdv ct) ⟨us,[]⟩=pure (ps.zip us):=by simp only [BN]; intros; rfl):D:=by
 unfold q4 v4 at e
 simp only [Prod.mk.injEq] at e
 obtain ⟨_,_,d⟩:=df_mk X G e.1 e.2.1 e.2.2.1 e.2.2.2 fun a b c d e f=>bnA (hb a b c d e f)
 exact k d
def Tk (P:Program) (w:World) (base:Heap):Prop:=True
theorem dN {P:Program} {w:World} {base:Heap} {n:Nat} {sp:Sp} {K:PySem.W.Frag} {h:Heap} {mg:Str→Option Value} (z:Tk P w base) (X:K.In h) (G:h.Ns mainGlobals mg) {x:Str} {st:Stmt} {ps:List Str} {f c:Addr} {pm:Value} (e:q4 K x f c=v4 x st f pm c) (k:∀ {f:Addr} {fd:FuncData},Df K mg x st ps f fd→Cal P w K mg base x ps n sp)
 (hb:∀ (kV doc pm:Value) (an:Option Addr) (cdv ct:Value),BN ps fun us=>bindArgs (PySem.W.fnOf x x (defArgs st) (defBody st) (defScope st) .none kV doc pm an cdv ct) ⟨us,[]⟩=pure (ps.zip us):=by simp only [BN]; intros; rfl):Cal P w K mg base x ps n sp:=dM X G e k hb
noncomputable abbrev KE (w:World):PySem.W.Frag:=HE.Kf asE (HE.endG pE 6006 w)
noncomputable abbrev dE:DefRec:=HE.recOf K76.s_law
theorem hd:PySem.W.LeftO pE qE loE (HE.XtF qE [] []) (fun s=>asE.map s.heap.get?) (fun w=>asE.map (HE.endG pE 6006 w)) 6006∧∀ w,FF (KE w)=VV w:=HE.head (p:=pE) (q:=qE) (loose:=loE) (lv:=[]) (R:=[]) (as:=asE) (N:=6006) (M:=2663) (F:=FF) (v:=VV) (by kernel_rfl) rfl (fun s=>by kernel_rfl) rfl runA runB runC
theorem dMc {P:Program} {w:World} {base:Heap} {n:Nat} {sp:Sp} {K:PySem.W.Frag} {h:Heap} {mg:Str→Option Value} (X:K.In h) (G:h.Ns mainGlobals mg) {x:Str} {st:Stmt} {ps:List Str} {f c:Addr} {pm:Value} (e:q4 K x f c=v4 x st f pm c) (k:∀ {f:Addr} {fd:FuncData},Df K mg x st ps f fd→fd.code = .ref c→FnOk P w K mg base CX0 n f fd ps sp)
  (hb:∀ (kV doc pm:Value) (an:Option Addr) (cdv ct:Value),BN ps fun us=>bindArgs (PySem.W.fnOf x x (defArgs st) (defBody st) (defScope st) .none kV doc pm an cdv ct) ⟨us,[]⟩=pure (ps.zip us):=by simp only [BN]; intros; rfl):Cal P w K mg base x ps n sp:=by
 unfold q4 v4 at e
 simp only [Prod.mk.injEq] at e
 have F:=fun_mk (st:=st) e.2.1 e.2.2.1 e.2.2.2
 have D:Df K mg x st ps f _:=⟨F,PySem.W.mg_of X G e.1,F.binds fun a b c d e f=>bnA (hb a b c d e f)⟩
 exact D.cal (k D rfl)
theorem tcode {K:PySem.W.Frag} {h:Heap} {mg:Str→Option Value} (X:K.In h) (G:h.Ns mainGlobals mg) {x:Str} {st:Stmt} {f c P0:Addr} {pm:Value} (e:q4 K x f c=v4 x st f pm c) (T:CLO.tabB K c P0=true) :
  ∀ (a c' P:Addr) (o:Obj) (fd:FuncData),mg x=some (.ref a)→h.get? a=some o→o.data = .func fd→fd.code = .ref c'→h.TableAt c' P #[]→c'=c∧P=P0:=by
 unfold q4 v4 at e
 simp only [Prod.mk.injEq] at e
 intro a c' P o fd m g d cc t
 have z:=m.symm.trans (PySem.W.mg_of X G e.1)
 cases z
 have z:=X _ _ e.2.1
 rw [g] at z
 cases z
 cases d
 have cc:Value.ref c = .ref c':=cc
 cases cc
 exact ⟨rfl,(K76.tab_of X T t).1⟩
theorem lk0 {K:PySem.W.Frag} {c P0:Addr} (T:CLO.tabB K c P0=true):K.lookup P0=none:=by
 unfold CLO.tabB at T
 exact Option.isNone_iff_eq_none.mp (Bool.and_eq_true_iff.mp T).2
theorem law_mk {l:PySem.W.OpenLaw} {w:World} {K:PySem.W.Frag} {h:Heap} {mg:Str→Option Value} {fa:Addr} (X:K.In h) (G:h.Ns mainGlobals mg) (hfa:mg "law" = some (.ref fa)) (hF:FF K=VV w) :
  ∃ fd:FuncData,(∀ (s:Shared) (v:Value),BindsTo s fd ⟨[v],[]⟩ [("_law_script",v)])∧((∀ (a c P:Addr) (o:Obj) (fd:FuncData),mg "_law_coming" = some (.ref a)→h.get? a=some o→o.data = .func fd→fd.code = .ref c→h.TableAt c P #[]→c=210∧P=206)∧(∀ (a c P:Addr) (o:Obj) (fd:FuncData),mg "_law_wanting" = some (.ref a)→h.get? a=some o→o.data = .func fd→fd.code = .ref c→h.TableAt c P #[]→c=217∧P=213))∧(K.lookup 206=none∧K.lookup 213=none)∧∀ base:Heap,K.In base→base.Ns mainGlobals mg→CLO.Tab mg base 210 206→CLO.Tab mg base 217 213→FnOk l.prog w K mg base CX0 9 fa fd ["_law_script"] (CLO.spLaw K 206 213):=by
 have Q {β:Type} (f:XX→β):=congrArg f hF
 have zz_isinstance:=PySem.W.mg_none_of X G (Q (·.1.1.1.1.1) :)
 have zz_list:=PySem.W.mg_none_of X G (Q (·.1.1.1.1.2) :)
 have zz_tuple:=PySem.W.mg_none_of X G (Q (·.1.1.1.2.1) :)
 have zz_dict:=PySem.W.mg_none_of X G (Q (·.1.1.1.2.2.1) :)
 have zz_bool:=PySem.W.mg_none_of X G (Q (·.1.1.1.2.2.2) :)
 have zz_len:=PySem.W.mg_none_of X G (Q (·.1.1.2.1.1) :)
 have zz_range:=PySem.W.mg_none_of X G (Q (·.1.1.2.1.2.1) :)
 have zz_reversed:=PySem.W.mg_none_of X G (Q (·.1.1.2.1.2.2) :)
 have zz_sum:=PySem.W.mg_none_of X G (Q (·.1.1.2.2.1) :)
 have zz_min:=PySem.W.mg_none_of X G (Q (·.1.1.2.2.2.1) :)
 have zz_zip:=PySem.W.mg_none_of X G (Q (·.1.1.2.2.2.2) :)
 have zz_ValueError:=PySem.W.mg_none_of X G (Q (·.1.2.1.1.1) :)
 have e:=hfa.symm.trans (PySem.W.mg_of X G (Q (·.2.1.2.1.2.1) :))
 cases e
 have MA:K76.MgA mg:=⟨zz_isinstance,zz_list,zz_tuple,zz_dict,zz_bool,zz_len,zz_range,zz_reversed,zz_sum,zz_min,zz_zip⟩
 have MC:K76.MgC K mg 29 42 109 128 147 166 54 66 78 90:=⟨PySem.W.mg_of X G (Q (·.1.2.1.1.2) :),PySem.W.mg_of X G (Q (·.1.2.1.2.1) :),PySem.W.mg_of X G (Q (·.1.2.1.2.2.1) :),PySem.W.mg_of X G (Q (·.1.2.1.2.2.2) :),PySem.W.mg_of X G (Q (·.1.2.2.1.1) :),PySem.W.mg_of X G (Q (·.1.2.2.1.2.1) :),PySem.W.mg_of X G (Q (·.1.2.2.1.2.2) :),PySem.W.mg_of X G (Q (·.1.2.2.2.1) :),PySem.W.mg_of X G (Q (·.1.2.2.2.2.1) :),PySem.W.mg_of X G (Q (·.1.2.2.2.2.2) :),EX.xc_of (Q (·.2.1.1.1.2) :),by decide,fun D hD=>(EX.kr_of (Q (·.2.1.1.1.1) :)).1 _ List.mem_cons_self D hD,(EX.kr_of (Q (·.2.1.1.1.1) :)).2.1 _ List.mem_cons_self,(EX.kr_of (Q (·.2.1.1.1.1) :)).2.2 _ List.mem_cons_self,zz_isinstance,zz_ValueError⟩
 have T1:CLO.tabB K 210 206=true:=(Q (·.2.1.1.2.1) :)
 have T2:CLO.tabB K 217 213=true:=(Q (·.2.1.1.2.2.1) :)
 have X0_NoFault:EX.X0 K mg "NoFault" 78:=EX.x0_of (PySem.W.mg_of X G (Q (·.1.2.2.2.2.1) :)) (Q (·.2.1.1.2.2.2) :) ((EX.kr_of (Q (·.2.1.1.1.1) :)).2.2 78 (by simp)).1 (Q (·.2.1.2.1.1) :)
 have F:=fun_mk (st:=K76.s_law) (Q (·.2.1.2.1.2.2) :) (Q (·.2.1.2.2.1) :) (Q (·.2.1.2.2.2.1) :)
 have DL:Df K mg "law" K76.s_law ["_law_script"] 240 _:=⟨F,hfa,F.binds (fun _ _ _ _ _ _=>arg1 fun _=>rfl)⟩
 refine ⟨PySem.W.fnOf "law" "law" (defArgs K76.s_law) (defBody K76.s_law) (defScope K76.s_law) .none (.none) (.none) (.str "law_slicewise_k76_the_fewest_parts" 423) none (.ref 239) (.none),fun s v=>.of_eq rfl,⟨tcode X G (Q (·.2.2.2.1.2.1) :) T1,tcode X G (Q (·.2.2.2.1.2.2) :) T2⟩,⟨lk0 T1,lk0 T2⟩,fun base _ _ TAB1 TAB2=>?_⟩
 have zT:Tk l.prog w base:=trivial
 have c_copied:=dN zT X G (Q (·.2.1.2.2.2.2) :) fun D=>K76.ok_copied D MA
 have c_is_wanted:=dM X G (Q (·.2.2.1.1.1) :) fun D=>K76.ok_is_wanted D MA c_copied
 have c_came_of_parts:=dM X G (Q (·.2.2.1.1.2) :) fun D=>K76.ok_came_of_parts D MA c_copied
 have c_left_of_round:=dM X G (Q (·.2.2.1.2.1) :) fun D=>K76.ok_left_of_round D MA c_is_wanted c_came_of_parts
 have c_fewest:=dM X G (Q (·.2.2.1.2.2.1) :) fun D=>K76.ok_fewest D MA c_copied c_is_wanted c_came_of_parts c_left_of_round
 have c_fewestE:=dM X G (Q (·.2.2.1.2.2.1) :) fun D=>K76.ok_fewestE D MA X0_NoFault c_copied c_is_wanted c_came_of_parts
 have c__law_cell_at:=dN zT X G (Q (·.2.2.1.2.2.2) :) fun D=>K76.ok_cell_at D MA
 have c__law_part:=dN zT X G (Q (·.2.2.2.1.1) :) fun D=>K76.ok_part D MA
 have c__law_coming:=dMc X G (Q (·.2.2.2.1.2.1) :) fun D hc=>K76.ok_coming (P:=l.prog) (w:=w) D hc TAB1
 have c__law_wanting:=dMc X G (Q (·.2.2.2.1.2.2) :) fun D hc=>K76.ok_wanting (P:=l.prog) (w:=w) D hc TAB2
 have c__law_refused:=dM X G (Q (·.2.2.2.2.1) :) fun D=>K76.ok_refused D MC c_fewestE
 have c__law_round:=dN zT X G (Q (·.2.2.2.2.2.1) :) fun D=>K76.ok_round D MA
 have c__law_right:=dM X G (Q (·.2.2.2.2.2.2) :) fun D=>K76.ok_right D MA c__law_round
 obtain ⟨f1,fd1,m1,k1,b1,F1⟩:=c__law_coming
 obtain ⟨f2,fd2,m2,k2,b2,F2⟩:=c__law_wanting
 exact K76.ok_law F MA (by decide) m1 k1 b1 F1 m2 k2 b2 F2 c__law_cell_at c__law_part c__law_right c__law_refused c_fewest
theorem walk {l:PySem.W.OpenLaw} {q:Program} {loose:List Str} {XP:(Str→Option Value)→Heap→Prop} {d:DefRec} {K:World→PySem.W.Frag} (hn:l.most=some 63) (hdf:d.params.defaults=[]) (hr1:(PyProof.Rows.recsOf q).any (fun d=>d.name == "_law_coming")=true) (hr2:(PyProof.Rows.recsOf q).any (fun d=>d.name == "_law_wanting")=true)
  (F:∀ (w:World) (mg:Str→Option Value) (fa:Addr) (h:Heap),(K w).In h→h.Ns mainGlobals mg→mg d.name=some (.ref fa) →
    ∃ fd:FuncData,(∀ (s:Shared) (u:Value),BindsTo s fd ⟨[u],[]⟩ [("_law_script",u)])∧((∀ (a c P:Addr) (o:Obj) (fd:FuncData),mg "_law_coming" = some (.ref a)→h.get? a=some o→o.data = .func fd→fd.code = .ref c→h.TableAt c P #[]→c=210∧P=206)∧(∀ (a c P:Addr) (o:Obj) (fd:FuncData),mg "_law_wanting" = some (.ref a)→h.get? a=some o→o.data = .func fd→fd.code = .ref c→h.TableAt c P #[]→c=217∧P=213))∧((K w).lookup 206=none∧(K w).lookup 213=none)∧∀ base:Heap,(K w).In base→base.Ns mainGlobals mg→CLO.Tab mg base 210 206→CLO.Tab mg base 217 213→FnOk l.prog w (K w) mg base CX0 9 fa fd ["_law_script"] (CLO.spLaw (K w) 206 213)) :
  PySem.W.WalkO q loose XP (fun w h=>(K w).In h) l.row.toRowW d [] (fun f vs=>PySem.call f vs):=by
 refine Att.attach_call hn hdf fun w s₀ s₁ mg mb fa o pm cd doc a vs ns G Y ho hd hcd hmg hobj hints hlen hg=>?_
 obtain ⟨fd,hb,⟨t1,t2⟩,⟨k1,k2⟩,hF⟩:=F w mg fa _ Y G.T.g hmg
 obtain ⟨r1,hm1,hn1⟩:=List.any_eq_true.mp hr1
 obtain ⟨r2,hm2,hn2⟩:=List.any_eq_true.mp hr2
 have hn1:=beq_iff_eq.mp hn1
 have hn2:=beq_iff_eq.mp hn2
 obtain ⟨a1,o1,fd1,c1,P1,m1,g1,d1,e1,i1,j1⟩:=G.T.tab r1 hm1
 obtain ⟨a2,o2,fd2,c2,P2,m2,g2,d2,e2,i2,j2⟩:=G.T.tab r2 hm2
 rw [hn1] at m1
 rw [hn2] at m2
 obtain ⟨rfl,rfl⟩:=t1 a1 c1 P1 o1 fd1 m1 g1 d1 e1 j1
 obtain ⟨rfl,rfl⟩:=t2 a2 c2 P2 o2 fd2 m2 g2 d2 e2 j2
 obtain ⟨bm,ob,b1,b2,b3,b4,b5,b6⟩:=G.T.bmain
 refine CLO.law_callT Y G.T.g G.T.b G.T.builtins G.T.nolimit hg hobj hints hlen ⟨rfl,by decide,by decide⟩ j1 j2 (PySem.W.CodeHd.of i1 j1) (PySem.W.CodeHd.of i2 j2) (by decide) k1 k2 ⟨bm,ob,b1,b2,fun z=>?_,b3,b4,b5,b6⟩ hF hb
 obtain ⟨o',es,ep,e,dd,_⟩:=G.T.g
 rw [z,e] at b3
 cases b3
 rw [dd] at b6
 cases b6
end K76Z
open PySem PySem.W PyProof.Rows
set_option maxRecDepth 100000 in
set_option maxHeartbeats 0 in
theorem PySem.Challenge.cw_slicewise_k76_the_fewest_parts_holds : PySem.Challenge.rw_slicewise_k76_the_fewest_parts.Holds := by
 w_on
 refine PySem.W.holds_law K76Z.said fun said=>?_
 refine PySem.W.holds_openX (q:=K76Z.qE) (loose:=K76Z.loE) (Xt:=HE.XtF K76Z.qE [] []) (XP:=PySem.W.XL K76Z.qE []) (d:=K76Z.dE) (kwd:=[]) (N:=6006) K76Z.hd.1 (fun s e=>PySem.W.xl_of s (Bool.and_eq_true_iff.mp e).1) PySem.W.XL.keeps (by kernel_rfl) (by kernel_rfl) (by kernel_rfl) (fun s e=>PySem.W.recFacts_of (Bool.and_eq_true_iff.mp e).2) (by kernel_rfl) said (by kernel_rfl) ⟨rfl,rfl,rfl,rfl,rfl,by decide +kernel⟩ ?hw ?hc
 (case hw=>w_witness2)
 exact HE.walkX_of (K76Z.walk (l:=PySem.Challenge.rw_slicewise_k76_the_fewest_parts) (K:=K76Z.KE) (q:=K76Z.qE) rfl rfl (by kernel_rfl) (by kernel_rfl) (fun w mg fa h KX G hmg=>K76Z.law_mk KX G hmg (K76Z.hd.2 w)))
